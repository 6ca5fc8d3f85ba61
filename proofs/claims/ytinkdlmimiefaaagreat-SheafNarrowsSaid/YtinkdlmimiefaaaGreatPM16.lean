/- What is told of plots. -/
import Derived.Test.YtinkdlmimiefaaaGreatProg
import Derived.Test.YtinkdlmimiefaaaGreatPM15
namespace Go.K
open Go.Proofs Go.RowKit
set_option linter.unusedVariables false
set_option linter.unusedSimpArgs false
set_option maxRecDepth 100000
attribute [local irreducible] Seq Step CallV AnyE opX

def stoodC (p : Pl) (h dy : Int) : Rg × Int := if hourI p h dy = 0 then if (stoodAtF (scnF p dy) (crtF p dy) h).2 then ((stoodAtF (scnF p dy) (crtF p dy) h).1, 0) else (⟨0, 0⟩, 14) else (⟨0, 0⟩, hourI p h dy)
def cartedC (p : Pl) (s dy : Int) : Rg × Int :=
  if dayI p dy = 0 then
    if (placeF (crtF p dy) s).2 then
      if (stoodF (scnF p dy) (crtF p dy)).2 then
        let at_ := (placeF (crtF p dy) s).1.toNat
        let b := (stoodF (scnF p dy) (crtF p dy)).1.getD at_ ⟨0, 0⟩
        let a := (stoodF (scnF p dy) (crtF p dy)).1.getD (at_ + 1) ⟨0, 0⟩
        let x := (crtF p dy).getD at_ ⟨0, 0, 0, 0, 0, 0⟩
        (meetF ⟨x.lo, x.hi⟩ ⟨b.lo - a.hi, b.hi - a.lo⟩, 0)
      else (⟨0, 0⟩, 14)
    else (⟨0, 0⟩, 17)
  else (⟨0, 0⟩, dayI p dy)
def clearC (p : Pl) (h dy : Int) : Int × Int := if (stoodC p h dy).2 = 0 then (answerI (decide ((stoodC p h dy).1.lo = 0)) (decide ((stoodC p h dy).1.hi = 0)), 0) else (0, (stoodC p h dy).2)
def shutC (p : Pl) (h dy : Int) : Bool × Int := if hourI p h dy = 0 then (shutF (scnF p dy) h, 0) else (false, hourI p h dy)
theorem withF_ok {p : Pl} {cs : List Ld} (h : ScOk p cs) {x lo hi : Int} (hb : Bd 10000 ⟨lo, hi⟩) : ScOk (withF p x lo hi) cs := by
  refine ⟨h.sown, fun y hy => ?_, h.ld⟩
  rcases List.mem_append.1 hy with h1 | h1
  · exact h.st y h1
  · rw [List.mem_singleton] at h1; subst h1; exact hb
theorem bd00 : Bd 10000 ⟨0, 0⟩ := ⟨by decide, by decide, by decide, by decide⟩
theorem bd1 : Bd 10000 ⟨1, 10000⟩ := ⟨by decide, by decide, by decide, by decide⟩
def openC (p : Pl) (h dy : Int) : Int × Int :=
  if hourI p h dy = 0 then
    if (stoodF (scnF p dy) (crtF p dy)).2 then
      if shutF (scnF p dy) h then (0, 0) else
        if (geeseF (scnF p dy) h).2 then
          (answerI (stoodF (withF (withF (scnF p dy) h 0 0) (geeseF (scnF p dy) h).1 1 10000) (crtF p dy)).2 (!((stoodF (withF (scnF p dy) h 1 10000) (crtF p dy)).2 || (stoodF (withF (scnF p dy) (geeseF (scnF p dy) h).1 0 0) (crtF p dy)).2)), 0)
        else (answerI (stoodF (withF (scnF p dy) h 0 0) (crtF p dy)).2 (!(stoodF (withF (scnF p dy) h 1 10000) (crtF p dy)).2), 0)
    else (0, 14)
  else (0, hourI p h dy)
theorem pass2_bd {bs : List Rg} {fs : List Pf} {M : Int} (hb : ∀ r ∈ bs, Bd M r) (hf : ∀ f ∈ fs, Fd f.x) (hl : bs.length ≤ fs.length + 1) (hs : bs.length ≤ 90) : ∀ r ∈ (passF bs fs).1, Bd (M + 1000000) r := by
  intro r hr
  unfold passF at hr
  split at hr
  · obtain ⟨q, hq, he⟩ := List.getElem_of_mem (show r ∈ passAll bs fs from hr)
    have hlen := pass_len hl
    exact (pass_bd hb hf hl q r (by rw [List.getElem?_eq_getElem hq, he])).mono (by omega)
  · cases hr
theorem stoodF_bd {p : Pl} {cs : List Ld} (h : ScOk p cs) (hl : cs.length ≤ 60) : ∀ r ∈ (stoodF p cs).1, Bd 10000000 r := by
  have hb := boundsF_len p cs
  intro r hr
  unfold stoodF at hr
  split at hr
  · rename_i h1
    have h2 := passF_len (by rw [List.length_reverse, List.length_reverse, List.length_map]; omega) h1
    rw [List.length_reverse] at h2
    refine (pass2_bd (M := 1000000) (fun r hr => passF_bd (fun r hr => boundsF_bd h r (List.mem_reverse.1 hr)) (fun f hf => fd_map h.ld f (List.mem_reverse.1 hf)) (by simp; omega) (by simp; omega) r (List.mem_reverse.1 hr)) (fd_map h.ld) ?_ ?_ r hr).mono (by decide)
    · rw [List.length_reverse, List.length_map, h2]; omega
    · rw [List.length_reverse, h2]; omega
  · cases hr
theorem place_at {cs : List Ld} {s : Int} (h : (placeF cs s).2 = true) : ∃ k : Nat, (placeF cs s).1 = (k : Int) ∧ k < cs.length := by
  have hb := idx_bd (fun x : Ld => decide (x.src = s)) cs
  unfold placeF at h ⊢
  split
  · rename_i h1
    exact ⟨(idxI (fun x : Ld => decide (x.src = s)) cs).toNat, by simp; omega, by omega⟩
  · rename_i h1; rw [if_neg h1] at h; cases h


theorem Stood_c (w0 : World) (pl : Pl) (pA1 : Option Addr) (pn1 pc1 : Nat) (pA2 : Option Addr) (pn2 pc2 : Nat) (pA3 : Option Addr) (pn3 pc3 : Nat) (hP : PlotIn w0 pl pA1 pn1 pA2 pn2 pA3 pn3) (h dy : Int) (hn19 : pl.loads.length < 20) : Does Tryz.prog 36 [.agg #[.int .i64 pl.lo, .int .i64 pl.hi, .slice pA1 pn1 pc1, .slice pA2 pn2 pc2, .slice pA3 pn3 pc3, .int .i64 pl.geese], .int .i64 h, .int .i64 dy] w0 fun v w => v = .tuple #[.agg (eRg (stoodC pl h dy).1).toArray, .int .i64 (stoodC pl h dy).2] ∧ Below w0.heap.size w0 w := by
 have hm1 := hP.m1; have hm2 := hP.m2; have hm3 := hP.m3
 refine calls_of (n := 31) Tryz.func36 rfl Tryz.ntmps36 rfl ?_
 have hI := Inv.start w0
 refine wp_seq (rgn (by kernel_rfl) (seq_c (s_boxI hI [iv pl.lo, iv pl.hi, .slice pA1 pn1 pc1, .slice pA2 pn2 pc2, .slice pA3 pn3 pc3, iv pl.geese] rfl ?_)))
 intro b1 w hI
 refine seq_c (s_allocI hI [iv 0, iv 0] Tryz.zeroValue23 rfl ?_)
 intro b2 w hI
 refine pu (iv 0) (by kernel_rfl) (seq_nil (wp_seq (wp_seq (rgn (by kernel_rfl) (seq_c (s_loadK hI 1 6 [iv pl.lo, iv pl.hi, .slice pA1 pn1 pc1, .slice pA2 pn2 pc2, .slice pA3 pn3 pc3, iv pl.geese] Tryz.isAgg28 Tryz.sizeOf28 rfl rfl rfl rfl ?_))))))
 refine pu (iv h) (by kernel_rfl) (pu (iv dy) (by kernel_rfl) (seq_c (s_callv hI 97 [.agg #[iv pl.lo, iv pl.hi, .slice pA1 pn1 pc1, .slice pA2 pn2 pc2, .slice pA3 pn3 pc3, iv pl.geese], iv h, iv dy] (iv (hourI pl h dy)) (by kernel_rfl) (checkHour_c _ pl pA1 pn1 pc1 pA2 pn2 pc2 pA3 pn3 pc3 (hP.inv0 hI) h dy) ?_)))
 intro w hI
 refine pu (iv (hourI pl h dy)) (by kernel_rfl) (seq_nil (wp_seq (rgn (by kernel_rfl) (pu (iv (hourI pl h dy)) (by kernel_rfl) (seq_c (s_neq rfl rfl ?_ ?_))))))
 ·intro h1
  refine seq_nil (wp_condT rfl (wp_seq (rgn (by kernel_rfl) (pu (.agg #[iv 0, iv 0]) (by kernel_rfl) (pu (iv (hourI pl h dy)) (by kernel_rfl) (seq_c (s_store hI 0 2 [iv 0, iv 0] Tryz.sizeOf23 rfl rfl rfl rfl rfl (Nat.le_of_ble_eq_true rfl) ?_)))))))
  intro w hI
  refine pu (iv (hourI pl h dy)) (by kernel_rfl) (seq_nil (wp_ret ?_))
  exact ⟨.tuple #[.agg #[iv 0, iv 0], iv (hourI pl h dy)], Ret.ct rfl rfl (run_loadK hI 0 2 [iv 0, iv 0] Tryz.isAgg23 Tryz.sizeOf23 rfl rfl rfl) rfl, ⟨by simp [stoodC, eRg, h1], hI.below⟩⟩
 ·intro h2
  refine seq_nil (wp_condF rfl (wp_skip (wp_seq (rgn (by kernel_rfl) (seq_c (s_loadK hI 1 6 [iv pl.lo, iv pl.hi, .slice pA1 pn1 pc1, .slice pA2 pn2 pc2, .slice pA3 pn3 pc3, iv pl.geese] Tryz.isAgg28 Tryz.sizeOf28 rfl rfl rfl rfl ?_))))))
  refine pu (iv dy) (by kernel_rfl) ?_
  have hsl := scn_len pl dy; obtain ⟨hsl1, hsl2, hsl3⟩ := hsl; have hsc := crt_len pl dy; have hok_ := plotB_small (hourI_ok h2).1; have hok1 := hok_.s1; have hok2 := hok_.s2; have hok3 := hok_.s3
  refine seq_c (s_callScene hI (q := scnF pl dy) (cs := crtF pl dy) 86 [.agg #[iv pl.lo, iv pl.hi, .slice pA1 pn1 pc1, .slice pA2 pn2 pc2, .slice pA3 pn3 pc3, iv pl.geese], iv dy] (by kernel_rfl) (sceneOf_c _ pl pA1 pn1 pc1 pA2 pn2 pc2 pA3 pn3 pc3 (hP.inv0 hI) (plotB_small (hourI_ok h2).1) dy (by omega)) ?_)
  intro g3 c4 cl5 g7 c8 cl9 g11 c12 cl13 g15 c16 cl17 w hI r6 r10 r14 r18
  refine pu (iv h) (by kernel_rfl) ?_
  rcases Bool.eq_false_or_eq_true ((stoodAtF (scnF pl dy) (crtF pl dy) h).2) with h3 | h3
  ·
   refine seq_c (s_callv hI 98 [.agg #[iv (scnF pl dy).lo, iv (scnF pl dy).hi, slv g3 (scnF pl dy).loads.length c4, slv g7 (scnF pl dy).stands.length c8, slv g11 (scnF pl dy).spells.length c12, iv (scnF pl dy).geese, slv g15 (crtF pl dy).length c16], iv h] (.tuple #[.agg #[iv ((stoodAtF (scnF pl dy) (crtF pl dy) h).1.lo), iv ((stoodAtF (scnF pl dy) (crtF pl dy) h).1.hi)], .bool true]) (by kernel_rfl) (Does.mono (stoodAt_c _ (scnF pl dy) (g3.map fun b => ⟨b, 0, none⟩) (scnF pl dy).loads.length c4 (g7.map fun b => ⟨b, 0, none⟩) (scnF pl dy).stands.length c8 (g11.map fun b => ⟨b, 0, none⟩) (scnF pl dy).spells.length c12 (crtF pl dy) (g15.map fun b => ⟨b, 0, none⟩) (crtF pl dy).length c16 ⟨⟨(hI.rowCells 0 rfl r6), rfl, (hI.rowCells 1 rfl r10), rfl, (hI.rowCells 2 rfl r14), rfl, (by omega), (by omega), (by omega)⟩, (hI.rowCells 3 rfl r18), rfl, r18.cap, (by omega), (by omega), (by omega), (by omega)⟩ (scn_ok (hourI_ok h2).1 dy) h) (fun v w' h => ⟨h.1.trans (by first | (rw [h3]; done) | (rw [h3]; rfl)), h.2⟩)) ?_)
   intro w hI
   refine pu (.tuple #[.agg #[iv ((stoodAtF (scnF pl dy) (crtF pl dy) h).1.lo), iv ((stoodAtF (scnF pl dy) (crtF pl dy) h).1.hi)], .bool true]) (by kernel_rfl) (pu (.agg #[iv ((stoodAtF (scnF pl dy) (crtF pl dy) h).1.lo), iv ((stoodAtF (scnF pl dy) (crtF pl dy) h).1.hi)]) (by kernel_rfl) (pu (.bool true) (by kernel_rfl) (seq_c (s_allocI hI [iv 0, iv 0] Tryz.zeroValue23 rfl ?_))))
   intro b19 w hI
   refine seq_c (s_store hI 0 2 [iv ((stoodAtF (scnF pl dy) (crtF pl dy) h).1.lo), iv ((stoodAtF (scnF pl dy) (crtF pl dy) h).1.hi)] Tryz.sizeOf23 rfl rfl rfl rfl rfl (Nat.le_of_ble_eq_true rfl) ?_)
   intro w hI
   refine pu (.bool true) (by kernel_rfl) (seq_nil (wp_seq (wp_seq (rgn (by kernel_rfl) (pu (.bool true) (by kernel_rfl) (pu (.bool false) (by kernel_rfl) (seq_nil (wp_condF rfl (wp_skip ?_)))))))))
   refine wp_seq (rgn (by kernel_rfl) (seq_c (s_loadK hI 0 2 [iv ((stoodAtF (scnF pl dy) (crtF pl dy) h).1.lo), iv ((stoodAtF (scnF pl dy) (crtF pl dy) h).1.hi)] Tryz.isAgg23 Tryz.sizeOf23 rfl rfl rfl rfl ?_)))
   refine seq_c (s_store hI 5 2 [iv ((stoodAtF (scnF pl dy) (crtF pl dy) h).1.lo), iv ((stoodAtF (scnF pl dy) (crtF pl dy) h).1.hi)] Tryz.sizeOf23 rfl rfl rfl rfl rfl (Nat.le_of_ble_eq_true rfl) ?_)
   intro w hI
   refine pu (iv 0) (by kernel_rfl) (seq_nil (wp_ret ?_))
   exact ⟨.tuple #[.agg #[iv ((stoodAtF (scnF pl dy) (crtF pl dy) h).1.lo), iv ((stoodAtF (scnF pl dy) (crtF pl dy) h).1.hi)], iv 0], Ret.ct rfl rfl (run_loadK hI 5 2 [iv ((stoodAtF (scnF pl dy) (crtF pl dy) h).1.lo), iv ((stoodAtF (scnF pl dy) (crtF pl dy) h).1.hi)] Tryz.isAgg23 Tryz.sizeOf23 rfl rfl rfl) rfl, ⟨by simp [stoodC, eRg, h2, h3], hI.below⟩⟩
  ·
   refine seq_c (s_callv hI 98 [.agg #[iv (scnF pl dy).lo, iv (scnF pl dy).hi, slv g3 (scnF pl dy).loads.length c4, slv g7 (scnF pl dy).stands.length c8, slv g11 (scnF pl dy).spells.length c12, iv (scnF pl dy).geese, slv g15 (crtF pl dy).length c16], iv h] (.tuple #[.agg #[iv ((stoodAtF (scnF pl dy) (crtF pl dy) h).1.lo), iv ((stoodAtF (scnF pl dy) (crtF pl dy) h).1.hi)], .bool false]) (by kernel_rfl) (Does.mono (stoodAt_c _ (scnF pl dy) (g3.map fun b => ⟨b, 0, none⟩) (scnF pl dy).loads.length c4 (g7.map fun b => ⟨b, 0, none⟩) (scnF pl dy).stands.length c8 (g11.map fun b => ⟨b, 0, none⟩) (scnF pl dy).spells.length c12 (crtF pl dy) (g15.map fun b => ⟨b, 0, none⟩) (crtF pl dy).length c16 ⟨⟨(hI.rowCells 0 rfl r6), rfl, (hI.rowCells 1 rfl r10), rfl, (hI.rowCells 2 rfl r14), rfl, (by omega), (by omega), (by omega)⟩, (hI.rowCells 3 rfl r18), rfl, r18.cap, (by omega), (by omega), (by omega), (by omega)⟩ (scn_ok (hourI_ok h2).1 dy) h) (fun v w' h => ⟨h.1.trans (by first | (rw [h3]; done) | (rw [h3]; rfl)), h.2⟩)) ?_)
   intro w hI
   refine pu (.tuple #[.agg #[iv ((stoodAtF (scnF pl dy) (crtF pl dy) h).1.lo), iv ((stoodAtF (scnF pl dy) (crtF pl dy) h).1.hi)], .bool false]) (by kernel_rfl) (pu (.agg #[iv ((stoodAtF (scnF pl dy) (crtF pl dy) h).1.lo), iv ((stoodAtF (scnF pl dy) (crtF pl dy) h).1.hi)]) (by kernel_rfl) (pu (.bool false) (by kernel_rfl) (seq_c (s_allocI hI [iv 0, iv 0] Tryz.zeroValue23 rfl ?_))))
   intro b20 w hI
   refine seq_c (s_store hI 0 2 [iv ((stoodAtF (scnF pl dy) (crtF pl dy) h).1.lo), iv ((stoodAtF (scnF pl dy) (crtF pl dy) h).1.hi)] Tryz.sizeOf23 rfl rfl rfl rfl rfl (Nat.le_of_ble_eq_true rfl) ?_)
   intro w hI
   refine pu (.bool false) (by kernel_rfl) (seq_nil (wp_seq (wp_seq (rgn (by kernel_rfl) (pu (.bool false) (by kernel_rfl) (pu (.bool true) (by kernel_rfl) (seq_nil (wp_condT rfl (wp_seq ?_)))))))))
   refine rgn (by kernel_rfl) (pu (.agg #[iv 0, iv 0]) (by kernel_rfl) (seq_c (s_store hI 5 2 [iv 0, iv 0] Tryz.sizeOf23 rfl rfl rfl rfl rfl (Nat.le_of_ble_eq_true rfl) ?_)))
   intro w hI
   refine pu (iv 14) (by kernel_rfl) (seq_nil (wp_ret ?_))
   exact ⟨.tuple #[.agg #[iv 0, iv 0], iv 14], Ret.ct rfl rfl (run_loadK hI 5 2 [iv 0, iv 0] Tryz.isAgg23 Tryz.sizeOf23 rfl rfl rfl) rfl, ⟨by simp [stoodC, eRg, h2, h3], hI.below⟩⟩


set_option maxHeartbeats 1600000 in
theorem Carted_c (w0 : World) (pl : Pl) (pA1 : Option Addr) (pn1 pc1 : Nat) (pA2 : Option Addr) (pn2 pc2 : Nat) (pA3 : Option Addr) (pn3 pc3 : Nat) (hP : PlotIn w0 pl pA1 pn1 pA2 pn2 pA3 pn3) (s dy : Int) (hn19 : pl.loads.length < 20) : Does Tryz.prog 38 [.agg #[.int .i64 pl.lo, .int .i64 pl.hi, .slice pA1 pn1 pc1, .slice pA2 pn2 pc2, .slice pA3 pn3 pc3, .int .i64 pl.geese], .int .i64 s, .int .i64 dy] w0 fun v w => v = .tuple #[.agg (eRg (cartedC pl s dy).1).toArray, .int .i64 (cartedC pl s dy).2] ∧ Below w0.heap.size w0 w := by
 have hm1 := hP.m1; have hm2 := hP.m2; have hm3 := hP.m3
 refine calls_of (n := 71) Tryz.func38 rfl Tryz.ntmps38 rfl ?_
 have hI := Inv.start w0
 refine wp_seq (rgn (by kernel_rfl) (seq_c (s_boxI hI [iv pl.lo, iv pl.hi, .slice pA1 pn1 pc1, .slice pA2 pn2 pc2, .slice pA3 pn3 pc3, iv pl.geese] rfl ?_)))
 intro b1 w hI
 refine seq_c (s_allocI hI [iv 0, iv 0] Tryz.zeroValue23 rfl ?_)
 intro b2 w hI
 refine pu (iv 0) (by kernel_rfl) (seq_nil (wp_seq (wp_seq (rgn (by kernel_rfl) (seq_c (s_loadK hI 1 6 [iv pl.lo, iv pl.hi, .slice pA1 pn1 pc1, .slice pA2 pn2 pc2, .slice pA3 pn3 pc3, iv pl.geese] Tryz.isAgg28 Tryz.sizeOf28 rfl rfl rfl rfl ?_))))))
 refine pu (iv dy) (by kernel_rfl) (seq_c (s_callv hI 85 [.agg #[iv pl.lo, iv pl.hi, .slice pA1 pn1 pc1, .slice pA2 pn2 pc2, .slice pA3 pn3 pc3, iv pl.geese], iv dy] (iv (dayI pl dy)) (by kernel_rfl) (checkDay_c _ pl pA1 pn1 pc1 pA2 pn2 pc2 pA3 pn3 pc3 (hP.inv0 hI) dy) ?_))
 intro w hI
 refine pu (iv (dayI pl dy)) (by kernel_rfl) (seq_nil (wp_seq (rgn (by kernel_rfl) (pu (iv (dayI pl dy)) (by kernel_rfl) (seq_c (s_neq rfl rfl ?_ ?_))))))
 ·intro h1
  refine seq_nil (wp_condT rfl (wp_seq (rgn (by kernel_rfl) (pu (.agg #[iv 0, iv 0]) (by kernel_rfl) (pu (iv (dayI pl dy)) (by kernel_rfl) (seq_c (s_store hI 0 2 [iv 0, iv 0] Tryz.sizeOf23 rfl rfl rfl rfl rfl (Nat.le_of_ble_eq_true rfl) ?_)))))))
  intro w hI
  refine pu (iv (dayI pl dy)) (by kernel_rfl) (seq_nil (wp_ret ?_))
  exact ⟨.tuple #[.agg #[iv 0, iv 0], iv (dayI pl dy)], Ret.ct rfl rfl (run_loadK hI 0 2 [iv 0, iv 0] Tryz.isAgg23 Tryz.sizeOf23 rfl rfl rfl) rfl, ⟨by simp [cartedC, eRg, h1], hI.below⟩⟩
 ·intro h2
  refine seq_nil (wp_condF rfl (wp_skip (wp_seq (rgn (by kernel_rfl) (seq_c (s_loadK hI 1 6 [iv pl.lo, iv pl.hi, .slice pA1 pn1 pc1, .slice pA2 pn2 pc2, .slice pA3 pn3 pc3, iv pl.geese] Tryz.isAgg28 Tryz.sizeOf28 rfl rfl rfl rfl ?_))))))
  refine pu (iv dy) (by kernel_rfl) ?_
  have hsl := scn_len pl dy; obtain ⟨hsl1, hsl2, hsl3⟩ := hsl; have hsc := crt_len pl dy; have hok_ := plotB_small (dayI_ok h2).1; have hok1 := hok_.s1; have hok2 := hok_.s2; have hok3 := hok_.s3
  refine seq_c (s_callScene hI (q := scnF pl dy) (cs := crtF pl dy) 86 [.agg #[iv pl.lo, iv pl.hi, .slice pA1 pn1 pc1, .slice pA2 pn2 pc2, .slice pA3 pn3 pc3, iv pl.geese], iv dy] (by kernel_rfl) (sceneOf_c _ pl pA1 pn1 pc1 pA2 pn2 pc2 pA3 pn3 pc3 (hP.inv0 hI) (plotB_small (dayI_ok h2).1) dy (by omega)) ?_)
  intro g3 c4 cl5 g7 c8 cl9 g11 c12 cl13 g15 c16 cl17 w hI r6 r10 r14 r18
  refine seq_c (s_allocI hI [iv 0, iv 0, .slice none 0 0, .slice none 0 0, .slice none 0 0, iv 0, .slice none 0 0] Tryz.zeroValue116 rfl ?_)
  intro b19 w hI
  refine seq_c (s_store hI 0 7 [iv (scnF pl dy).lo, iv (scnF pl dy).hi, slv g3 (scnF pl dy).loads.length c4, slv g7 (scnF pl dy).stands.length c8, slv g11 (scnF pl dy).spells.length c12, iv (scnF pl dy).geese, slv g15 (crtF pl dy).length c16] Tryz.sizeOf116 rfl rfl rfl rfl rfl (Nat.le_of_ble_eq_true rfl) ?_)
  intro w hI
  refine seq_nil (wp_seq (rgn (by kernel_rfl) (seq_c (s_loadK hI 0 7 [iv (scnF pl dy).lo, iv (scnF pl dy).hi, slv g3 (scnF pl dy).loads.length c4, slv g7 (scnF pl dy).stands.length c8, slv g11 (scnF pl dy).spells.length c12, iv (scnF pl dy).geese, slv g15 (crtF pl dy).length c16] Tryz.isAgg116 Tryz.sizeOf116 rfl rfl rfl rfl ?_))))
  refine pu (iv s) (by kernel_rfl) ?_
  rcases Bool.eq_false_or_eq_true ((placeF (crtF pl dy) s).2) with h3 | h3
  ·
   refine seq_c (s_callv hI 101 [.agg #[iv (scnF pl dy).lo, iv (scnF pl dy).hi, slv g3 (scnF pl dy).loads.length c4, slv g7 (scnF pl dy).stands.length c8, slv g11 (scnF pl dy).spells.length c12, iv (scnF pl dy).geese, slv g15 (crtF pl dy).length c16], iv s] (.tuple #[iv ((placeF (crtF pl dy) s).1), .bool true]) (by kernel_rfl) (Does.mono (place_c _ (scnF pl dy) (g3.map fun b => ⟨b, 0, none⟩) (scnF pl dy).loads.length c4 (g7.map fun b => ⟨b, 0, none⟩) (scnF pl dy).stands.length c8 (g11.map fun b => ⟨b, 0, none⟩) (scnF pl dy).spells.length c12 (crtF pl dy) (g15.map fun b => ⟨b, 0, none⟩) (crtF pl dy).length c16 ⟨⟨(hI.rowCells 1 rfl r6), rfl, (hI.rowCells 2 rfl r10), rfl, (hI.rowCells 3 rfl r14), rfl, (by omega), (by omega), (by omega)⟩, (hI.rowCells 4 rfl r18), rfl, r18.cap, (by omega), (by omega), (by omega), (by omega)⟩ s) (fun v w' h => ⟨h.1.trans (by first | (rw [h3]; done) | (rw [h3]; rfl)), h.2⟩)) ?_)
   intro w hI
   refine pu (.tuple #[iv ((placeF (crtF pl dy) s).1), .bool true]) (by kernel_rfl) (pu (iv ((placeF (crtF pl dy) s).1)) (by kernel_rfl) (pu (.bool true) (by kernel_rfl) (pu (iv ((placeF (crtF pl dy) s).1)) (by kernel_rfl) (pu (.bool true) (by kernel_rfl) (seq_nil (wp_seq (wp_seq (rgn (by kernel_rfl) (pu (.bool true) (by kernel_rfl) ?_)))))))))
   refine pu (.bool false) (by kernel_rfl) (seq_nil (wp_condF rfl (wp_skip (wp_seq (rgn (by kernel_rfl) (seq_c (s_loadK hI 0 7 [iv (scnF pl dy).lo, iv (scnF pl dy).hi, slv g3 (scnF pl dy).loads.length c4, slv g7 (scnF pl dy).stands.length c8, slv g11 (scnF pl dy).spells.length c12, iv (scnF pl dy).geese, slv g15 (crtF pl dy).length c16] Tryz.isAgg116 Tryz.sizeOf116 rfl rfl rfl rfl ?_)))))))
   rcases Bool.eq_false_or_eq_true ((stoodF (scnF pl dy) (crtF pl dy)).2) with h4 | h4
   ·
    refine seq_c (s_callNewF hI 102 [.agg #[iv (scnF pl dy).lo, iv (scnF pl dy).hi, slv g3 (scnF pl dy).loads.length c4, slv g7 (scnF pl dy).stands.length c8, slv g11 (scnF pl dy).spells.length c12, iv (scnF pl dy).geese, slv g15 (crtF pl dy).length c16]] (fun v1 => .tuple #[v1, .bool true]) (by kernel_rfl) (Does.mono (stood_c _ (scnF pl dy) (g3.map fun b => ⟨b, 0, none⟩) (scnF pl dy).loads.length c4 (g7.map fun b => ⟨b, 0, none⟩) (scnF pl dy).stands.length c8 (g11.map fun b => ⟨b, 0, none⟩) (scnF pl dy).spells.length c12 (crtF pl dy) (g15.map fun b => ⟨b, 0, none⟩) (crtF pl dy).length c16 ⟨⟨(hI.rowCells 1 rfl r6), rfl, (hI.rowCells 2 rfl r10), rfl, (hI.rowCells 3 rfl r14), rfl, (by omega), (by omega), (by omega)⟩, (hI.rowCells 4 rfl r18), rfl, r18.cap, (by omega), (by omega), (by omega), (by omega)⟩ (scn_ok (dayI_ok h2).1 dy)) (fun v w' ⟨v1, e1, e2⟩ => ⟨v1, by rw [e1, h4], e2⟩)) ?_)
    intro g20 c21 cl22 w hI r23
    have r23 : Row 2 g20 ((stoodF (scnF pl dy) (crtF pl dy)).1.length) c21 cl22 (flat eRg ((stoodF (scnF pl dy) (crtF pl dy)).1)) := r23
    have hsl := stoodF_len h4
    refine pu (.tuple #[slv g20 ((stoodF (scnF pl dy) (crtF pl dy)).1.length) c21, .bool true]) (by kernel_rfl) (pu (slv g20 ((stoodF (scnF pl dy) (crtF pl dy)).1.length) c21) (by kernel_rfl) (pu (.bool true) (by kernel_rfl) (pu (slv g20 ((stoodF (scnF pl dy) (crtF pl dy)).1.length) c21) (by kernel_rfl) (pu (.bool true) (by kernel_rfl) (seq_nil (wp_seq (wp_seq (rgn (by kernel_rfl) (pu (.bool true) (by kernel_rfl) ?_)))))))))
    refine pu (.bool false) (by kernel_rfl) (seq_nil (wp_condF rfl (wp_skip (wp_seq ?_))))
    obtain ⟨at_, hat, hatl⟩ := place_at h3
    have hbd := stoodF_bd (scn_ok (dayI_ok h2).1 dy) (by omega)
    obtain ⟨x24, hx25⟩ := get_lt (l := (stoodF (scnF pl dy) (crtF pl dy)).1) (i := at_) (by omega)
    obtain ⟨b26, rfl, he27⟩ := r23.at_ eRg_len (by decide) hx25
    obtain ⟨x28, hx29⟩ := get_lt (l := (stoodF (scnF pl dy) (crtF pl dy)).1) (i := at_ + 1) (by omega)
    have he30 := r23.atS eRg_len (by decide) hx29
    obtain ⟨hba, hbb, hbc, hbd_⟩ := hbd x24 (mem_of_get hx25)
    obtain ⟨hda, hdb, hdc, hdd⟩ := hbd x28 (mem_of_get hx29)
    refine wp_drawn2 hI [0, 1, 2, 3, 4, 5, 6, 7] (by decide) rfl (by kernel_rfl) (by kernel_rfl) ?_
    intro hsub
    refine alp 0 (slv (some b26) ((stoodF (scnF pl dy) (crtF pl dy)).1.length) c21) hsub rfl (by kernel_rfl) (fun _ => (by kernel_rfl)) ?_
    refine alp 1 (iv ((placeF (crtF pl dy) s).1)) hsub rfl (by kernel_rfl) (fun _ => (by kernel_rfl)) ?_
    refine al_light 2 (.pointer (some ⟨b26, at_ * 2, none⟩)) hsub rfl (by kernel_rfl) (fun w hI => s_indexR at_ Tryz.underlying130 Tryz.sizeOf23 rfl rfl hat (by omega) ⟨rfl, Below.refl _ _⟩) ?_
    refine al_light 3 (.agg #[iv x24.lo, iv x24.hi]) hsub rfl (by kernel_rfl) (fun w hI => s_loadRK hI 0 [iv x24.lo, iv x24.hi] Tryz.isAgg23 Tryz.sizeOf23 rfl rfl rfl he27 ⟨rfl, Below.refl _ _⟩) ?_
    refine alp 4 (slv (some b26) ((stoodF (scnF pl dy) (crtF pl dy)).1.length) c21) hsub rfl (by kernel_rfl) (fun _ => (by kernel_rfl)) ?_
    refine alp 5 (iv ((placeF (crtF pl dy) s).1)) hsub rfl (by kernel_rfl) (fun _ => (by kernel_rfl)) ?_
    refine al_light 6 (iv (((placeF (crtF pl dy) s).1) + 1)) hsub rfl (by kernel_rfl) (fun w hI => s_add rfl rfl (by omega) ⟨rfl, Below.refl _ _⟩) ?_
    refine al_light 7 (.pointer (some ⟨b26, (at_ + 1) * 2, none⟩)) hsub rfl (by kernel_rfl) (fun w hI => s_indexR (at_ + 1) Tryz.underlying130 Tryz.sizeOf23 rfl rfl (by omega) (by omega) ⟨rfl, Below.refl _ _⟩) ?_
    refine al_light 8 (.agg #[iv x28.lo, iv x28.hi]) hsub rfl (by kernel_rfl) (fun w hI => s_loadRK hI 0 [iv x28.lo, iv x28.hi] Tryz.isAgg23 Tryz.sizeOf23 rfl rfl rfl he30 ⟨rfl, Below.refl _ _⟩) ?_
    refine any_heavy [9, 10] (by kernel_rfl) rfl (each2 ?_ ?_)
    ·intro w hI
     refine ol_c rfl (s_allocI hI [iv 0, iv 0] Tryz.zeroValue23 rfl ?_)
     intro b31 w hI
     refine ⟨_, hI, subk (fun _ h => h.pickL [1, 2, 3, 4, 5, 6, 7, 8] (by decide) rfl) ?_⟩
     intro hsub
     refine any_heavy [10] (by kernel_rfl) rfl (each1 ?_)
     intro w hI
     refine ol_c rfl (s_allocI hI [iv 0, iv 0] Tryz.zeroValue23 rfl ?_)
     intro b32 w hI
     refine ⟨_, hI, subk (fun _ h => h.pickL [2, 3, 4, 5, 6, 7, 8, 9] (by decide) rfl) ?_⟩
     intro hsub
     refine any_heavy [11] (by kernel_rfl) rfl (each1 ?_)
     intro w hI
     refine ol_c rfl (s_store hI 1 2 [iv x24.lo, iv x24.hi] Tryz.sizeOf23 rfl rfl rfl rfl rfl (Nat.le_of_ble_eq_true rfl) ?_)
     intro w hI
     refine ⟨_, hI, subk (fun _ h => h.pickL [2, 3, 4, 5, 6, 7, 8, 9] (by decide) rfl) ?_⟩
     intro hsub
     refine any_heavy [12] (by kernel_rfl) rfl (each1 ?_)
     intro w hI
     refine ol_c rfl (s_store hI 0 2 [iv x28.lo, iv x28.hi] Tryz.sizeOf23 rfl rfl rfl rfl rfl (Nat.le_of_ble_eq_true rfl) ?_)
     intro w hI
     refine ⟨_, hI, subk (fun _ h => h.pickL [2, 3, 4, 5, 6, 7, 8, 9] (by decide) rfl) ?_⟩
     intro hsub
     refine any_end (by kernel_rfl) (fun w hI => ?_)
     refine wp_seq (rgn (by kernel_rfl) (pu (.pointer (some ⟨b31, 0, none⟩)) (by kernel_rfl) (seq_c (s_load1 hI 1 (iv x24.lo) Tryz.isAgg3 rfl rfl rfl ?_))))
     refine pu (.pointer (some ⟨b32, 1, none⟩)) (by kernel_rfl) (seq_c (s_load1 hI 0 (iv x28.hi) Tryz.isAgg3 rfl rfl rfl ?_))
     refine seq_c (s_sub rfl rfl (by omega) ?_)
     refine pu (.pointer (some ⟨b31, 1, none⟩)) (by kernel_rfl) (seq_c (s_load1 hI 1 (iv x24.hi) Tryz.isAgg3 rfl rfl rfl ?_))
     refine pu (.pointer (some ⟨b32, 0, none⟩)) (by kernel_rfl) (seq_c (s_load1 hI 0 (iv x28.lo) Tryz.isAgg3 rfl rfl rfl ?_))
     refine seq_c (s_sub rfl rfl (by omega) ?_)
     refine pu (.agg #[iv (x24.lo - x28.hi), iv (x24.hi - x28.lo)]) (by kernel_rfl) (seq_c (s_allocI hI [iv 0, iv 0] Tryz.zeroValue23 rfl ?_))
     intro b33 w hI
     refine seq_c (s_store hI 0 2 [iv (x24.lo - x28.hi), iv (x24.hi - x28.lo)] Tryz.sizeOf23 rfl rfl rfl rfl rfl (Nat.le_of_ble_eq_true rfl) ?_)
     intro w hI
     refine seq_nil (wp_seq ?_)
     obtain ⟨x34, hx35⟩ := get_lt (l := crtF pl dy) (i := at_) (by omega)
     obtain ⟨b36, rfl, he37⟩ := r18.at_ eLd_len (by decide) hx35
     replace hI := hI.pickL [0, 1, 2, 3, 4, 5, 6, 7, 8, 10, 9] (by decide) rfl
     refine wp_drawn2 hI [0, 1, 2, 3, 4, 5, 6, 7, 8, 9] (by decide) rfl (by kernel_rfl) (by kernel_rfl) ?_
     intro hsub
     refine alp 0 (.pointer (some ⟨b19, 6, none⟩)) hsub rfl (by kernel_rfl) (fun _ => (by kernel_rfl)) ?_
     refine al_light 1 (slv (some b36) (crtF pl dy).length c16) hsub rfl (by kernel_rfl) (fun w hI => s_load1 hI 4 (slv (some b36) (crtF pl dy).length c16) Tryz.isAgg24 rfl rfl rfl ⟨rfl, Below.refl _ _⟩) ?_
     refine alp 2 (iv ((placeF (crtF pl dy) s).1)) hsub rfl (by kernel_rfl) (fun _ => (by kernel_rfl)) ?_
     refine al_light 3 (.pointer (some ⟨b36, at_ * 6, none⟩)) hsub rfl (by kernel_rfl) (fun w hI => s_indexR at_ Tryz.underlying24 Tryz.sizeOf30 rfl rfl hat (by omega) ⟨rfl, Below.refl _ _⟩) ?_
     refine alp 4 (.pointer (some ⟨b36, at_ * 6 + 2, none⟩)) hsub rfl (by kernel_rfl) (fun _ => (by kernel_rfl)) ?_
     refine al_light 5 (.agg #[iv x34.lo, iv x34.hi]) hsub rfl (by kernel_rfl) (fun w hI => s_loadRK hI 8 [iv x34.lo, iv x34.hi] Tryz.isAgg23 Tryz.sizeOf23 rfl rfl rfl (fun j v h => by have := part_of he37 2 2 rfl j v h; rwa [← Nat.add_assoc] at this) ⟨rfl, Below.refl _ _⟩) ?_
     refine al_light 6 (.agg #[iv (x24.lo - x28.hi), iv (x24.hi - x28.lo)]) hsub rfl (by kernel_rfl) (fun w hI => s_loadK hI 0 2 [iv (x24.lo - x28.hi), iv (x24.hi - x28.lo)] Tryz.isAgg23 Tryz.sizeOf23 rfl rfl rfl rfl ⟨rfl, Below.refl _ _⟩) ?_
     refine al_light 7 (.agg #[iv (if (x24.lo - x28.hi) > x34.lo then (x24.lo - x28.hi) else x34.lo), iv (if (x24.hi - x28.lo) < x34.hi then (x24.hi - x28.lo) else x34.hi)]) hsub rfl (by kernel_rfl) (fun w hI => s_call 103 [.agg #[iv x34.lo, iv x34.hi], .agg #[iv (x24.lo - x28.hi), iv (x24.hi - x28.lo)]] (by kernel_rfl) (meet_c x34.lo x34.hi (x24.lo - x28.hi) (x24.hi - x28.lo) _) (fun v' w' h => h)) ?_
     refine any_heavy [8] (by kernel_rfl) rfl (each1 ?_)
     intro w hI
     refine ol_c rfl (s_store hI 10 2 [iv (if (x24.lo - x28.hi) > x34.lo then (x24.lo - x28.hi) else x34.lo), iv (if (x24.hi - x28.lo) < x34.hi then (x24.hi - x28.lo) else x34.hi)] Tryz.sizeOf23 rfl rfl rfl rfl rfl (Nat.le_of_ble_eq_true rfl) ?_)
     intro w hI
     refine ⟨_, hI, subk (fun _ h => h.pickL [0, 1, 2, 3, 4, 5, 6, 7, 8, 9] (by decide) rfl) ?_⟩
     intro hsub
     refine alp 9 (iv 0) hsub rfl (by kernel_rfl) (fun _ => (by kernel_rfl)) ?_
     refine any_end (by kernel_rfl) (fun w hI => ?_)
     refine wp_ret ?_
     have e : cartedC pl s dy = (meetF ⟨x34.lo, x34.hi⟩ ⟨x24.lo - x28.hi, x24.hi - x28.lo⟩, 0) := by simp [cartedC, h2, h3, h4, hat, List.getD_eq_getElem?_getD, hx25, hx29, hx35]
     exact ⟨.tuple #[.agg #[iv (if (x24.lo - x28.hi) > x34.lo then (x24.lo - x28.hi) else x34.lo), iv (if (x24.hi - x28.lo) < x34.hi then (x24.hi - x28.lo) else x34.hi)], iv 0], Ret.ct rfl rfl (run_loadK hI 10 2 [iv (if (x24.lo - x28.hi) > x34.lo then (x24.lo - x28.hi) else x34.lo), iv (if (x24.hi - x28.lo) < x34.hi then (x24.hi - x28.lo) else x34.hi)] Tryz.isAgg23 Tryz.sizeOf23 rfl rfl rfl) rfl, ⟨by rw [e]; rfl, hI.below⟩⟩
    ·intro w hI
     refine ol_c rfl (s_allocI hI [iv 0, iv 0] Tryz.zeroValue23 rfl ?_)
     intro b38 w hI
     refine ⟨_, hI, subk (fun _ h => h.pickL [1, 2, 3, 4, 5, 6, 7, 8] (by decide) rfl) ?_⟩
     intro hsub
     refine any_heavy [9] (by kernel_rfl) rfl (each1 ?_)
     intro w hI
     refine ol_c rfl (s_allocI hI [iv 0, iv 0] Tryz.zeroValue23 rfl ?_)
     intro b39 w hI
     refine ⟨_, hI, subk (fun _ h => h.pickL [2, 3, 4, 5, 6, 7, 8, 9] (by decide) rfl) ?_⟩
     intro hsub
     refine any_heavy [11] (by kernel_rfl) rfl (each1 ?_)
     intro w hI
     refine ol_c rfl (s_store hI 0 2 [iv x24.lo, iv x24.hi] Tryz.sizeOf23 rfl rfl rfl rfl rfl (Nat.le_of_ble_eq_true rfl) ?_)
     intro w hI
     refine ⟨_, hI, subk (fun _ h => h.pickL [2, 3, 4, 5, 6, 7, 8, 9] (by decide) rfl) ?_⟩
     intro hsub
     refine any_heavy [12] (by kernel_rfl) rfl (each1 ?_)
     intro w hI
     refine ol_c rfl (s_store hI 1 2 [iv x28.lo, iv x28.hi] Tryz.sizeOf23 rfl rfl rfl rfl rfl (Nat.le_of_ble_eq_true rfl) ?_)
     intro w hI
     refine ⟨_, hI, subk (fun _ h => h.pickL [2, 3, 4, 5, 6, 7, 8, 9] (by decide) rfl) ?_⟩
     intro hsub
     refine any_end (by kernel_rfl) (fun w hI => ?_)
     refine wp_seq (rgn (by kernel_rfl) (pu (.pointer (some ⟨b39, 0, none⟩)) (by kernel_rfl) (seq_c (s_load1 hI 0 (iv x24.lo) Tryz.isAgg3 rfl rfl rfl ?_))))
     refine pu (.pointer (some ⟨b38, 1, none⟩)) (by kernel_rfl) (seq_c (s_load1 hI 1 (iv x28.hi) Tryz.isAgg3 rfl rfl rfl ?_))
     refine seq_c (s_sub rfl rfl (by omega) ?_)
     refine pu (.pointer (some ⟨b39, 1, none⟩)) (by kernel_rfl) (seq_c (s_load1 hI 0 (iv x24.hi) Tryz.isAgg3 rfl rfl rfl ?_))
     refine pu (.pointer (some ⟨b38, 0, none⟩)) (by kernel_rfl) (seq_c (s_load1 hI 1 (iv x28.lo) Tryz.isAgg3 rfl rfl rfl ?_))
     refine seq_c (s_sub rfl rfl (by omega) ?_)
     refine pu (.agg #[iv (x24.lo - x28.hi), iv (x24.hi - x28.lo)]) (by kernel_rfl) (seq_c (s_allocI hI [iv 0, iv 0] Tryz.zeroValue23 rfl ?_))
     intro b40 w hI
     refine seq_c (s_store hI 0 2 [iv (x24.lo - x28.hi), iv (x24.hi - x28.lo)] Tryz.sizeOf23 rfl rfl rfl rfl rfl (Nat.le_of_ble_eq_true rfl) ?_)
     intro w hI
     refine seq_nil (wp_seq ?_)
     obtain ⟨x41, hx42⟩ := get_lt (l := crtF pl dy) (i := at_) (by omega)
     obtain ⟨b43, rfl, he44⟩ := r18.at_ eLd_len (by decide) hx42
     replace hI := hI.pickL [0, 1, 2, 3, 4, 5, 6, 7, 8, 10, 9] (by decide) rfl
     refine wp_drawn2 hI [0, 1, 2, 3, 4, 5, 6, 7, 8, 9] (by decide) rfl (by kernel_rfl) (by kernel_rfl) ?_
     intro hsub
     refine alp 0 (.pointer (some ⟨b19, 6, none⟩)) hsub rfl (by kernel_rfl) (fun _ => (by kernel_rfl)) ?_
     refine al_light 1 (slv (some b43) (crtF pl dy).length c16) hsub rfl (by kernel_rfl) (fun w hI => s_load1 hI 4 (slv (some b43) (crtF pl dy).length c16) Tryz.isAgg24 rfl rfl rfl ⟨rfl, Below.refl _ _⟩) ?_
     refine alp 2 (iv ((placeF (crtF pl dy) s).1)) hsub rfl (by kernel_rfl) (fun _ => (by kernel_rfl)) ?_
     refine al_light 3 (.pointer (some ⟨b43, at_ * 6, none⟩)) hsub rfl (by kernel_rfl) (fun w hI => s_indexR at_ Tryz.underlying24 Tryz.sizeOf30 rfl rfl hat (by omega) ⟨rfl, Below.refl _ _⟩) ?_
     refine alp 4 (.pointer (some ⟨b43, at_ * 6 + 2, none⟩)) hsub rfl (by kernel_rfl) (fun _ => (by kernel_rfl)) ?_
     refine al_light 5 (.agg #[iv x41.lo, iv x41.hi]) hsub rfl (by kernel_rfl) (fun w hI => s_loadRK hI 8 [iv x41.lo, iv x41.hi] Tryz.isAgg23 Tryz.sizeOf23 rfl rfl rfl (fun j v h => by have := part_of he44 2 2 rfl j v h; rwa [← Nat.add_assoc] at this) ⟨rfl, Below.refl _ _⟩) ?_
     refine al_light 6 (.agg #[iv (x24.lo - x28.hi), iv (x24.hi - x28.lo)]) hsub rfl (by kernel_rfl) (fun w hI => s_loadK hI 0 2 [iv (x24.lo - x28.hi), iv (x24.hi - x28.lo)] Tryz.isAgg23 Tryz.sizeOf23 rfl rfl rfl rfl ⟨rfl, Below.refl _ _⟩) ?_
     refine al_light 7 (.agg #[iv (if (x24.lo - x28.hi) > x41.lo then (x24.lo - x28.hi) else x41.lo), iv (if (x24.hi - x28.lo) < x41.hi then (x24.hi - x28.lo) else x41.hi)]) hsub rfl (by kernel_rfl) (fun w hI => s_call 103 [.agg #[iv x41.lo, iv x41.hi], .agg #[iv (x24.lo - x28.hi), iv (x24.hi - x28.lo)]] (by kernel_rfl) (meet_c x41.lo x41.hi (x24.lo - x28.hi) (x24.hi - x28.lo) _) (fun v' w' h => h)) ?_
     refine any_heavy [8] (by kernel_rfl) rfl (each1 ?_)
     intro w hI
     refine ol_c rfl (s_store hI 10 2 [iv (if (x24.lo - x28.hi) > x41.lo then (x24.lo - x28.hi) else x41.lo), iv (if (x24.hi - x28.lo) < x41.hi then (x24.hi - x28.lo) else x41.hi)] Tryz.sizeOf23 rfl rfl rfl rfl rfl (Nat.le_of_ble_eq_true rfl) ?_)
     intro w hI
     refine ⟨_, hI, subk (fun _ h => h.pickL [0, 1, 2, 3, 4, 5, 6, 7, 8, 9] (by decide) rfl) ?_⟩
     intro hsub
     refine alp 9 (iv 0) hsub rfl (by kernel_rfl) (fun _ => (by kernel_rfl)) ?_
     refine any_end (by kernel_rfl) (fun w hI => ?_)
     refine wp_ret ?_
     have e : cartedC pl s dy = (meetF ⟨x41.lo, x41.hi⟩ ⟨x24.lo - x28.hi, x24.hi - x28.lo⟩, 0) := by simp [cartedC, h2, h3, h4, hat, List.getD_eq_getElem?_getD, hx25, hx29, hx42]
     exact ⟨.tuple #[.agg #[iv (if (x24.lo - x28.hi) > x41.lo then (x24.lo - x28.hi) else x41.lo), iv (if (x24.hi - x28.lo) < x41.hi then (x24.hi - x28.lo) else x41.hi)], iv 0], Ret.ct rfl rfl (run_loadK hI 10 2 [iv (if (x24.lo - x28.hi) > x41.lo then (x24.lo - x28.hi) else x41.lo), iv (if (x24.hi - x28.lo) < x41.hi then (x24.hi - x28.lo) else x41.hi)] Tryz.isAgg23 Tryz.sizeOf23 rfl rfl rfl) rfl, ⟨by rw [e]; rfl, hI.below⟩⟩
   ·
    refine seq_c (s_callNewF hI 102 [.agg #[iv (scnF pl dy).lo, iv (scnF pl dy).hi, slv g3 (scnF pl dy).loads.length c4, slv g7 (scnF pl dy).stands.length c8, slv g11 (scnF pl dy).spells.length c12, iv (scnF pl dy).geese, slv g15 (crtF pl dy).length c16]] (fun v1 => .tuple #[v1, .bool false]) (by kernel_rfl) (Does.mono (stood_c _ (scnF pl dy) (g3.map fun b => ⟨b, 0, none⟩) (scnF pl dy).loads.length c4 (g7.map fun b => ⟨b, 0, none⟩) (scnF pl dy).stands.length c8 (g11.map fun b => ⟨b, 0, none⟩) (scnF pl dy).spells.length c12 (crtF pl dy) (g15.map fun b => ⟨b, 0, none⟩) (crtF pl dy).length c16 ⟨⟨(hI.rowCells 1 rfl r6), rfl, (hI.rowCells 2 rfl r10), rfl, (hI.rowCells 3 rfl r14), rfl, (by omega), (by omega), (by omega)⟩, (hI.rowCells 4 rfl r18), rfl, r18.cap, (by omega), (by omega), (by omega), (by omega)⟩ (scn_ok (dayI_ok h2).1 dy)) (fun v w' ⟨v1, e1, e2⟩ => ⟨v1, by rw [e1, h4], e2⟩)) ?_)
    intro g45 c46 cl47 w hI r48
    have r48 : Row 2 g45 ((stoodF (scnF pl dy) (crtF pl dy)).1.length) c46 cl47 (flat eRg ((stoodF (scnF pl dy) (crtF pl dy)).1)) := r48
    refine pu (.tuple #[slv g45 ((stoodF (scnF pl dy) (crtF pl dy)).1.length) c46, .bool false]) (by kernel_rfl) (pu (slv g45 ((stoodF (scnF pl dy) (crtF pl dy)).1.length) c46) (by kernel_rfl) (pu (.bool false) (by kernel_rfl) (pu (slv g45 ((stoodF (scnF pl dy) (crtF pl dy)).1.length) c46) (by kernel_rfl) (pu (.bool false) (by kernel_rfl) (seq_nil (wp_seq (wp_seq (rgn (by kernel_rfl) (pu (.bool false) (by kernel_rfl) ?_)))))))))
    refine pu (.bool true) (by kernel_rfl) (seq_nil (wp_condT rfl (wp_seq (rgn (by kernel_rfl) (pu (.agg #[iv 0, iv 0]) (by kernel_rfl) (seq_c (s_store hI 6 2 [iv 0, iv 0] Tryz.sizeOf23 rfl rfl rfl rfl rfl (Nat.le_of_ble_eq_true rfl) ?_)))))))
    intro w hI
    refine pu (iv 14) (by kernel_rfl) (seq_nil (wp_ret ?_))
    exact ⟨.tuple #[.agg #[iv 0, iv 0], iv 14], Ret.ct rfl rfl (run_loadK hI 6 2 [iv 0, iv 0] Tryz.isAgg23 Tryz.sizeOf23 rfl rfl rfl) rfl, ⟨by simp [cartedC, eRg, h2, h3, h4], hI.below⟩⟩
  ·
   refine seq_c (s_callv hI 101 [.agg #[iv (scnF pl dy).lo, iv (scnF pl dy).hi, slv g3 (scnF pl dy).loads.length c4, slv g7 (scnF pl dy).stands.length c8, slv g11 (scnF pl dy).spells.length c12, iv (scnF pl dy).geese, slv g15 (crtF pl dy).length c16], iv s] (.tuple #[iv ((placeF (crtF pl dy) s).1), .bool false]) (by kernel_rfl) (Does.mono (place_c _ (scnF pl dy) (g3.map fun b => ⟨b, 0, none⟩) (scnF pl dy).loads.length c4 (g7.map fun b => ⟨b, 0, none⟩) (scnF pl dy).stands.length c8 (g11.map fun b => ⟨b, 0, none⟩) (scnF pl dy).spells.length c12 (crtF pl dy) (g15.map fun b => ⟨b, 0, none⟩) (crtF pl dy).length c16 ⟨⟨(hI.rowCells 1 rfl r6), rfl, (hI.rowCells 2 rfl r10), rfl, (hI.rowCells 3 rfl r14), rfl, (by omega), (by omega), (by omega)⟩, (hI.rowCells 4 rfl r18), rfl, r18.cap, (by omega), (by omega), (by omega), (by omega)⟩ s) (fun v w' h => ⟨h.1.trans (by first | (rw [h3]; done) | (rw [h3]; rfl)), h.2⟩)) ?_)
   intro w hI
   refine pu (.tuple #[iv ((placeF (crtF pl dy) s).1), .bool false]) (by kernel_rfl) (pu (iv ((placeF (crtF pl dy) s).1)) (by kernel_rfl) (pu (.bool false) (by kernel_rfl) (pu (iv ((placeF (crtF pl dy) s).1)) (by kernel_rfl) (pu (.bool false) (by kernel_rfl) (seq_nil (wp_seq (wp_seq (rgn (by kernel_rfl) (pu (.bool false) (by kernel_rfl) ?_)))))))))
   refine pu (.bool true) (by kernel_rfl) (seq_nil (wp_condT rfl (wp_seq (rgn (by kernel_rfl) (pu (.agg #[iv 0, iv 0]) (by kernel_rfl) (seq_c (s_store hI 5 2 [iv 0, iv 0] Tryz.sizeOf23 rfl rfl rfl rfl rfl (Nat.le_of_ble_eq_true rfl) ?_)))))))
   intro w hI
   refine pu (iv 17) (by kernel_rfl) (seq_nil (wp_ret ?_))
   exact ⟨.tuple #[.agg #[iv 0, iv 0], iv 17], Ret.ct rfl rfl (run_loadK hI 5 2 [iv 0, iv 0] Tryz.isAgg23 Tryz.sizeOf23 rfl rfl rfl) rfl, ⟨by simp [cartedC, eRg, h2, h3], hI.below⟩⟩

set_option maxHeartbeats 3200000 in
theorem Open_c (w0 : World) (pl : Pl) (pA1 : Option Addr) (pn1 pc1 : Nat) (pA2 : Option Addr) (pn2 pc2 : Nat) (pA3 : Option Addr) (pn3 pc3 : Nat) (hP : PlotIn w0 pl pA1 pn1 pA2 pn2 pA3 pn3) (h dy : Int) (hn19 : pl.loads.length < 20) : Does Tryz.prog 51 [.agg #[.int .i64 pl.lo, .int .i64 pl.hi, .slice pA1 pn1 pc1, .slice pA2 pn2 pc2, .slice pA3 pn3 pc3, .int .i64 pl.geese], .int .i64 h, .int .i64 dy] w0 fun v w => v = .tuple #[.int .i64 (openC pl h dy).1, .int .i64 (openC pl h dy).2] ∧ Below w0.heap.size w0 w := by
 have hm1 := hP.m1; have hm2 := hP.m2; have hm3 := hP.m3
 refine calls_of (n := 67) Tryz.func51 rfl Tryz.ntmps51 rfl ?_
 have hI := Inv.start w0
 refine wp_seq (rgn (by kernel_rfl) (seq_c (s_boxI hI [iv pl.lo, iv pl.hi, .slice pA1 pn1 pc1, .slice pA2 pn2 pc2, .slice pA3 pn3 pc3, iv pl.geese] rfl ?_)))
 intro b1 w hI
 refine pu (iv 0) (by kernel_rfl) (pu (iv 0) (by kernel_rfl) (seq_nil (wp_seq (wp_seq (rgn (by kernel_rfl) (seq_c (s_loadK hI 0 6 [iv pl.lo, iv pl.hi, .slice pA1 pn1 pc1, .slice pA2 pn2 pc2, .slice pA3 pn3 pc3, iv pl.geese] Tryz.isAgg28 Tryz.sizeOf28 rfl rfl rfl rfl ?_)))))))
 refine pu (iv h) (by kernel_rfl) (pu (iv dy) (by kernel_rfl) (seq_c (s_callv hI 97 [.agg #[iv pl.lo, iv pl.hi, .slice pA1 pn1 pc1, .slice pA2 pn2 pc2, .slice pA3 pn3 pc3, iv pl.geese], iv h, iv dy] (iv (hourI pl h dy)) (by kernel_rfl) (checkHour_c _ pl pA1 pn1 pc1 pA2 pn2 pc2 pA3 pn3 pc3 (hP.inv0 hI) h dy) ?_)))
 intro w hI
 refine pu (iv (hourI pl h dy)) (by kernel_rfl) (seq_nil (wp_seq (rgn (by kernel_rfl) (pu (iv (hourI pl h dy)) (by kernel_rfl) (seq_c (s_neq rfl rfl ?_ ?_))))))
 ·intro h1
  refine seq_nil (wp_condT rfl (wp_seq (rgn (by kernel_rfl) (pu (iv (hourI pl h dy)) (by kernel_rfl) (pu (iv 0) (by kernel_rfl) (pu (iv (hourI pl h dy)) (by kernel_rfl) (seq_nil (wp_ret ?_))))))))
  exact ⟨.tuple #[iv 0, iv (hourI pl h dy)], Ret.r2 rfl rfl rfl, ⟨by simp [openC, h1], hI.below⟩⟩
 ·intro h2
  refine seq_nil (wp_condF rfl (wp_skip (wp_seq (rgn (by kernel_rfl) (seq_c (s_loadK hI 0 6 [iv pl.lo, iv pl.hi, .slice pA1 pn1 pc1, .slice pA2 pn2 pc2, .slice pA3 pn3 pc3, iv pl.geese] Tryz.isAgg28 Tryz.sizeOf28 rfl rfl rfl rfl ?_))))))
  refine pu (iv dy) (by kernel_rfl) ?_
  have hsl := scn_len pl dy; obtain ⟨hsl1, hsl2, hsl3⟩ := hsl; have hsc := crt_len pl dy; have hok_ := plotB_small (hourI_ok h2).1; have hok1 := hok_.s1; have hok2 := hok_.s2; have hok3 := hok_.s3
  refine seq_c (s_callScene hI (q := scnF pl dy) (cs := crtF pl dy) 86 [.agg #[iv pl.lo, iv pl.hi, .slice pA1 pn1 pc1, .slice pA2 pn2 pc2, .slice pA3 pn3 pc3, iv pl.geese], iv dy] (by kernel_rfl) (sceneOf_c _ pl pA1 pn1 pc1 pA2 pn2 pc2 pA3 pn3 pc3 (hP.inv0 hI) (plotB_small (hourI_ok h2).1) dy (by omega)) ?_)
  intro g2 c3 cl4 g6 c7 cl8 g10 c11 cl12 g14 c15 cl16 w hI r5 r9 r13 r17
  refine seq_c (s_allocI hI [iv 0, iv 0, .slice none 0 0, .slice none 0 0, .slice none 0 0, iv 0, .slice none 0 0] Tryz.zeroValue116 rfl ?_)
  intro b18 w hI
  refine seq_c (s_store hI 0 7 [iv (scnF pl dy).lo, iv (scnF pl dy).hi, slv g2 (scnF pl dy).loads.length c3, slv g6 (scnF pl dy).stands.length c7, slv g10 (scnF pl dy).spells.length c11, iv (scnF pl dy).geese, slv g14 (crtF pl dy).length c15] Tryz.sizeOf116 rfl rfl rfl rfl rfl (Nat.le_of_ble_eq_true rfl) ?_)
  intro w hI
  refine seq_nil (wp_seq (wp_seq (rgn (by kernel_rfl) (seq_c (s_loadK hI 0 7 [iv (scnF pl dy).lo, iv (scnF pl dy).hi, slv g2 (scnF pl dy).loads.length c3, slv g6 (scnF pl dy).stands.length c7, slv g10 (scnF pl dy).spells.length c11, iv (scnF pl dy).geese, slv g14 (crtF pl dy).length c15] Tryz.isAgg116 Tryz.sizeOf116 rfl rfl rfl rfl ?_)))))
  refine seq_c (s_callb hI 87 [.agg #[iv (scnF pl dy).lo, iv (scnF pl dy).hi, slv g2 (scnF pl dy).loads.length c3, slv g6 (scnF pl dy).stands.length c7, slv g10 (scnF pl dy).spells.length c11, iv (scnF pl dy).geese, slv g14 (crtF pl dy).length c15]] ((stoodF (scnF pl dy) (crtF pl dy)).2) (by kernel_rfl) (sound_c _ (scnF pl dy) (g2.map fun b => ⟨b, 0, none⟩) (scnF pl dy).loads.length c3 (g6.map fun b => ⟨b, 0, none⟩) (scnF pl dy).stands.length c7 (g10.map fun b => ⟨b, 0, none⟩) (scnF pl dy).spells.length c11 (crtF pl dy) (g14.map fun b => ⟨b, 0, none⟩) (crtF pl dy).length c15 ⟨⟨(hI.rowCells 1 rfl r5), rfl, (hI.rowCells 2 rfl r9), rfl, (hI.rowCells 3 rfl r13), rfl, (by omega), (by omega), (by omega)⟩, (hI.rowCells 4 rfl r17), rfl, r17.cap, (by omega), (by omega), (by omega), (by omega)⟩ (scn_ok (hourI_ok h2).1 dy)) ?_ ?_)
  ·intro h3 w hI
   refine pu (.bool false) (by kernel_rfl) (seq_nil (wp_condF rfl (wp_skip (wp_seq (wp_seq (rgn (by kernel_rfl) (seq_c (s_loadK hI 0 7 [iv (scnF pl dy).lo, iv (scnF pl dy).hi, slv g2 (scnF pl dy).loads.length c3, slv g6 (scnF pl dy).stands.length c7, slv g10 (scnF pl dy).spells.length c11, iv (scnF pl dy).geese, slv g14 (crtF pl dy).length c15] Tryz.isAgg116 Tryz.sizeOf116 rfl rfl rfl rfl ?_))))))))
   refine pu (iv h) (by kernel_rfl) (seq_c (s_callb hI 116 [.agg #[iv (scnF pl dy).lo, iv (scnF pl dy).hi, slv g2 (scnF pl dy).loads.length c3, slv g6 (scnF pl dy).stands.length c7, slv g10 (scnF pl dy).spells.length c11, iv (scnF pl dy).geese, slv g14 (crtF pl dy).length c15], iv h] (shutF (scnF pl dy) h) (by kernel_rfl) (shut_c _ (scnF pl dy) (g2.map fun b => ⟨b, 0, none⟩) (scnF pl dy).loads.length c3 (g6.map fun b => ⟨b, 0, none⟩) (scnF pl dy).stands.length c7 (g10.map fun b => ⟨b, 0, none⟩) (scnF pl dy).spells.length c11 (crtF pl dy) (g14.map fun b => ⟨b, 0, none⟩) (crtF pl dy).length c15 ⟨⟨(hI.rowCells 1 rfl r5), rfl, (hI.rowCells 2 rfl r9), rfl, (hI.rowCells 3 rfl r13), rfl, (by omega), (by omega), (by omega)⟩, (hI.rowCells 4 rfl r17), rfl, r17.cap, (by omega), (by omega), (by omega), (by omega)⟩ h (isHour_bd (hourI_ok h2).2.1)) ?_ ?_))
   ·intro h4 w hI
    refine seq_nil (wp_condT rfl (wp_seq (rgn (by kernel_rfl) (pu (iv 0) (by kernel_rfl) (pu (iv 0) (by kernel_rfl) (seq_nil (wp_ret ?_)))))))
    exact ⟨.tuple #[iv 0, iv 0], Ret.r2 rfl rfl rfl, ⟨by simp [openC, h2, h3, h4], hI.below⟩⟩
   ·intro h5 w hI
    refine seq_nil (wp_condF rfl (wp_skip (wp_seq (rgn (by kernel_rfl) (pu (.agg #[iv 0, iv 0]) (by kernel_rfl) (pu (.agg #[iv 1, iv 10000]) (by kernel_rfl) (seq_c (s_allocI hI [iv 0, iv 0] Tryz.zeroValue23 rfl ?_))))))))
    intro b19 w hI
    refine seq_c (s_allocI hI [iv 0, iv 0] Tryz.zeroValue23 rfl ?_)
    intro b20 w hI
    refine seq_c (s_store hI 1 2 [iv 0, iv 0] Tryz.sizeOf23 rfl rfl rfl rfl rfl (Nat.le_of_ble_eq_true rfl) ?_)
    intro w hI
    refine seq_c (s_store hI 0 2 [iv 1, iv 10000] Tryz.sizeOf23 rfl rfl rfl rfl rfl (Nat.le_of_ble_eq_true rfl) ?_)
    intro w hI
    refine seq_nil (wp_seq (wp_drawn2 hI [0, 1, 2, 3, 4, 5, 6, 7] (by decide) rfl (by kernel_rfl) (by kernel_rfl) ?_))
    intro hsub
    refine al_light 0 (.agg #[iv (scnF pl dy).lo, iv (scnF pl dy).hi, slv g2 (scnF pl dy).loads.length c3, slv g6 (scnF pl dy).stands.length c7, slv g10 (scnF pl dy).spells.length c11, iv (scnF pl dy).geese, slv g14 (crtF pl dy).length c15]) hsub rfl (by kernel_rfl) (fun w hI => s_loadK hI 2 7 [iv (scnF pl dy).lo, iv (scnF pl dy).hi, slv g2 (scnF pl dy).loads.length c3, slv g6 (scnF pl dy).stands.length c7, slv g10 (scnF pl dy).spells.length c11, iv (scnF pl dy).geese, slv g14 (crtF pl dy).length c15] Tryz.isAgg116 Tryz.sizeOf116 rfl rfl rfl rfl ⟨rfl, Below.refl _ _⟩) ?_
    refine alp 1 (iv h) hsub rfl (by kernel_rfl) (fun _ => (by kernel_rfl)) ?_
    refine al_light 2 (.agg #[iv 0, iv 0]) hsub rfl (by kernel_rfl) (fun w hI => s_loadK hI 1 2 [iv 0, iv 0] Tryz.isAgg23 Tryz.sizeOf23 rfl rfl rfl rfl ⟨rfl, Below.refl _ _⟩) ?_
    refine al_light 4 (.agg #[iv (scnF pl dy).lo, iv (scnF pl dy).hi, slv g2 (scnF pl dy).loads.length c3, slv g6 (scnF pl dy).stands.length c7, slv g10 (scnF pl dy).spells.length c11, iv (scnF pl dy).geese, slv g14 (crtF pl dy).length c15]) hsub rfl (by kernel_rfl) (fun w hI => s_loadK hI 2 7 [iv (scnF pl dy).lo, iv (scnF pl dy).hi, slv g2 (scnF pl dy).loads.length c3, slv g6 (scnF pl dy).stands.length c7, slv g10 (scnF pl dy).spells.length c11, iv (scnF pl dy).geese, slv g14 (crtF pl dy).length c15] Tryz.isAgg116 Tryz.sizeOf116 rfl rfl rfl rfl ⟨rfl, Below.refl _ _⟩) ?_
    refine alp 5 (iv h) hsub rfl (by kernel_rfl) (fun _ => (by kernel_rfl)) ?_
    refine al_light 6 (.agg #[iv 1, iv 10000]) hsub rfl (by kernel_rfl) (fun w hI => s_loadK hI 0 2 [iv 1, iv 10000] Tryz.isAgg23 Tryz.sizeOf23 rfl rfl rfl rfl ⟨rfl, Below.refl _ _⟩) ?_
    refine any_heavy [3, 9] (by kernel_rfl) rfl (each2 ?_ ?_)
    ·intro w hI
     refine ol_c rfl (s_callNewF hI 118 [.agg #[iv (scnF pl dy).lo, iv (scnF pl dy).hi, slv g2 (scnF pl dy).loads.length c3, slv g6 (scnF pl dy).stands.length c7, slv g10 (scnF pl dy).spells.length c11, iv (scnF pl dy).geese, slv g14 (crtF pl dy).length c15], iv h, .agg #[iv 0, iv 0]] (fun v1 => .agg #[iv (scnF pl dy).lo, iv (scnF pl dy).hi, slv g2 (scnF pl dy).loads.length c3, v1, slv g10 (scnF pl dy).spells.length c11, iv (scnF pl dy).geese, slv g14 (crtF pl dy).length c15]) (by kernel_rfl) (with_c _ (scnF pl dy) (g2.map fun b => ⟨b, 0, none⟩) (scnF pl dy).loads.length c3 (g6.map fun b => ⟨b, 0, none⟩) (scnF pl dy).stands.length c7 (g10.map fun b => ⟨b, 0, none⟩) (scnF pl dy).spells.length c11 (crtF pl dy) (g14.map fun b => ⟨b, 0, none⟩) (crtF pl dy).length c15 ⟨⟨(hI.rowCells 3 rfl r5), rfl, (hI.rowCells 4 rfl r9), rfl, (hI.rowCells 5 rfl r13), rfl, (by omega), (by omega), (by omega)⟩, (hI.rowCells 6 rfl r17), rfl, r17.cap, (by omega), (by omega), (by omega), (by omega)⟩ h 0 0) ?_)
     intro g21 c22 cl23 w hI r24
     refine ⟨_, hI, subk (fun _ h => h.pickL [1, 2, 3, 4, 5, 6, 7, 8] (by decide) rfl) ?_⟩
     intro hsub
     refine any_heavy [7, 9] (by kernel_rfl) rfl (each2 ?_ ?_)
     ·intro w hI
      refine ol_c rfl (s_callNewF hI 118 [.agg #[iv (scnF pl dy).lo, iv (scnF pl dy).hi, slv g2 (scnF pl dy).loads.length c3, slv g6 (scnF pl dy).stands.length c7, slv g10 (scnF pl dy).spells.length c11, iv (scnF pl dy).geese, slv g14 (crtF pl dy).length c15], iv h, .agg #[iv 1, iv 10000]] (fun v1 => .agg #[iv (scnF pl dy).lo, iv (scnF pl dy).hi, slv g2 (scnF pl dy).loads.length c3, v1, slv g10 (scnF pl dy).spells.length c11, iv (scnF pl dy).geese, slv g14 (crtF pl dy).length c15]) (by kernel_rfl) (with_c _ (scnF pl dy) (g2.map fun b => ⟨b, 0, none⟩) (scnF pl dy).loads.length c3 (g6.map fun b => ⟨b, 0, none⟩) (scnF pl dy).stands.length c7 (g10.map fun b => ⟨b, 0, none⟩) (scnF pl dy).spells.length c11 (crtF pl dy) (g14.map fun b => ⟨b, 0, none⟩) (crtF pl dy).length c15 ⟨⟨(hI.rowCells 4 rfl r5), rfl, (hI.rowCells 5 rfl r9), rfl, (hI.rowCells 6 rfl r13), rfl, (by omega), (by omega), (by omega)⟩, (hI.rowCells 7 rfl r17), rfl, r17.cap, (by omega), (by omega), (by omega), (by omega)⟩ h 1 10000) ?_)
      intro g25 c26 cl27 w hI r28
      refine ⟨_, hI, subk (fun _ h => h.pickL [2, 3, 4, 5, 6, 7, 8, 9] (by decide) rfl) ?_⟩
      intro hsub
      refine any_heavy [8, 9] (by kernel_rfl) rfl (each2 ?_ ?_)
      ·intro w hI
       rcases Bool.eq_false_or_eq_true ((stoodF (withF (scnF pl dy) h 1 10000) (crtF pl dy)).2) with h6 | h6
       ·
        refine ol_c rfl (s_callv hI 87 [.agg #[iv (scnF pl dy).lo, iv (scnF pl dy).hi, slv g2 (scnF pl dy).loads.length c3, slv g25 ((scnF pl dy).stands.length + 1) c26, slv g10 (scnF pl dy).spells.length c11, iv (scnF pl dy).geese, slv g14 (crtF pl dy).length c15]] (.bool true) (by kernel_rfl) (Does.mono (sound_c _ (withF (scnF pl dy) h 1 10000) (g2.map fun b => ⟨b, 0, none⟩) (scnF pl dy).loads.length c3 (g25.map fun b => ⟨b, 0, none⟩) ((scnF pl dy).stands.length + 1) c26 (g10.map fun b => ⟨b, 0, none⟩) (scnF pl dy).spells.length c11 (crtF pl dy) (g14.map fun b => ⟨b, 0, none⟩) (crtF pl dy).length c15 ⟨⟨(hI.rowCells 5 rfl r5), rfl, (hI.rowCells 0 rfl r28), (r28.n_eq eLd_len (by decide)), (hI.rowCells 7 rfl r13), rfl, (by omega), (by omega), (by omega)⟩, (hI.rowCells 8 rfl r17), rfl, r17.cap, (by omega), (by omega), (by omega), (by omega)⟩ (withF_ok (scn_ok (hourI_ok h2).1 dy) bd1)) (fun v' w' h => ⟨h.1.trans (congrArg Value.bool h6), h.2⟩)) ?_)
        intro w hI
        refine ⟨_, hI, subk (fun _ h => h.pickL [2, 3, 4, 5, 6, 7, 8, 9] (by decide) rfl) ?_⟩
        intro hsub
        refine any_heavy [9] (by kernel_rfl) rfl (each1 ?_)
        intro w hI
        refine ol_c rfl (s_allocI hI [iv 0, iv 0, .slice none 0 0, .slice none 0 0, .slice none 0 0, iv 0, .slice none 0 0] Tryz.zeroValue116 rfl ?_)
        intro b29 w hI
        refine ⟨_, hI, subk (fun _ h => h.pickL [3, 4, 5, 6, 7, 8, 9, 10] (by decide) rfl) ?_⟩
        intro hsub
        refine any_heavy [10] (by kernel_rfl) rfl (each1 ?_)
        intro w hI
        refine ol_c rfl (s_store hI 0 7 [iv (scnF pl dy).lo, iv (scnF pl dy).hi, slv g2 (scnF pl dy).loads.length c3, slv g21 ((scnF pl dy).stands.length + 1) c22, slv g10 (scnF pl dy).spells.length c11, iv (scnF pl dy).geese, slv g14 (crtF pl dy).length c15] Tryz.sizeOf116 rfl rfl rfl rfl rfl (Nat.le_of_ble_eq_true rfl) ?_)
        intro w hI
        refine ⟨_, hI, subk (fun _ h => h.pickL [3, 4, 5, 6, 7, 8, 9, 10] (by decide) rfl) ?_⟩
        intro hsub
        refine alp 11 (.bool true) hsub rfl (by kernel_rfl) (fun _ => (by kernel_rfl)) ?_
        refine any_end (by kernel_rfl) (fun w hI => ?_)
        refine wp_seq (wp_seq (rgn (by kernel_rfl) (seq_c (s_loadK hI 5 7 [iv (scnF pl dy).lo, iv (scnF pl dy).hi, slv g2 (scnF pl dy).loads.length c3, slv g6 (scnF pl dy).stands.length c7, slv g10 (scnF pl dy).spells.length c11, iv (scnF pl dy).geese, slv g14 (crtF pl dy).length c15] Tryz.isAgg116 Tryz.sizeOf116 rfl rfl rfl rfl ?_))))
        refine pu (iv h) (by kernel_rfl) ?_
        rcases Bool.eq_false_or_eq_true ((geeseF (scnF pl dy) h).2) with h7 | h7
        ·
         refine seq_c (s_callv hI 119 [.agg #[iv (scnF pl dy).lo, iv (scnF pl dy).hi, slv g2 (scnF pl dy).loads.length c3, slv g6 (scnF pl dy).stands.length c7, slv g10 (scnF pl dy).spells.length c11, iv (scnF pl dy).geese, slv g14 (crtF pl dy).length c15], iv h] (.tuple #[iv ((geeseF (scnF pl dy) h).1), .bool true]) (by kernel_rfl) (Does.mono (geese_c _ (scnF pl dy) (g2.map fun b => ⟨b, 0, none⟩) (scnF pl dy).loads.length c3 (g6.map fun b => ⟨b, 0, none⟩) (scnF pl dy).stands.length c7 (g10.map fun b => ⟨b, 0, none⟩) (scnF pl dy).spells.length c11 (crtF pl dy) (g14.map fun b => ⟨b, 0, none⟩) (crtF pl dy).length c15 ⟨⟨(hI.rowCells 6 rfl r5), rfl, (hI.rowCells 7 rfl r9), rfl, (hI.rowCells 8 rfl r13), rfl, (by omega), (by omega), (by omega)⟩, (hI.rowCells 9 rfl r17), rfl, r17.cap, (by omega), (by omega), (by omega), (by omega)⟩ h (isHour_bd (hourI_ok h2).2.1) ⟨((plotB_iff pl).1 (hourI_ok h2).1).g0, ((plotB_iff pl).1 (hourI_ok h2).1).g1⟩) (fun v w' h => ⟨h.1.trans (by first | (rw [h7]; done) | (rw [h7]; rfl)), h.2⟩)) ?_)
         intro w hI
         refine pu (.tuple #[iv ((geeseF (scnF pl dy) h).1), .bool true]) (by kernel_rfl) (pu (iv ((geeseF (scnF pl dy) h).1)) (by kernel_rfl) (pu (.bool true) (by kernel_rfl) (pu (iv ((geeseF (scnF pl dy) h).1)) (by kernel_rfl) (pu (.bool true) (by kernel_rfl) (seq_nil (wp_seq (rgn (by kernel_rfl) (pu (.bool true) (by kernel_rfl) (seq_nil ?_)))))))))
         refine wp_condT rfl (wp_seq (rgn (by kernel_rfl) (seq_c (s_loadK hI 0 7 [iv (scnF pl dy).lo, iv (scnF pl dy).hi, slv g2 (scnF pl dy).loads.length c3, slv g21 ((scnF pl dy).stands.length + 1) c22, slv g10 (scnF pl dy).spells.length c11, iv (scnF pl dy).geese, slv g14 (crtF pl dy).length c15] Tryz.isAgg116 Tryz.sizeOf116 rfl rfl rfl rfl ?_))))
         refine pu (iv ((geeseF (scnF pl dy) h).1)) (by kernel_rfl) (seq_c (s_loadK hI 3 2 [iv 1, iv 10000] Tryz.isAgg23 Tryz.sizeOf23 rfl rfl rfl rfl ?_))
         refine seq_c (s_callNewF hI 118 [.agg #[iv (scnF pl dy).lo, iv (scnF pl dy).hi, slv g2 (scnF pl dy).loads.length c3, slv g21 ((scnF pl dy).stands.length + 1) c22, slv g10 (scnF pl dy).spells.length c11, iv (scnF pl dy).geese, slv g14 (crtF pl dy).length c15], iv ((geeseF (scnF pl dy) h).1), .agg #[iv 1, iv 10000]] (fun v1 => .agg #[iv (scnF pl dy).lo, iv (scnF pl dy).hi, slv g2 (scnF pl dy).loads.length c3, v1, slv g10 (scnF pl dy).spells.length c11, iv (scnF pl dy).geese, slv g14 (crtF pl dy).length c15]) (by kernel_rfl) (with_c _ (withF (scnF pl dy) h 0 0) (g2.map fun b => ⟨b, 0, none⟩) (scnF pl dy).loads.length c3 (g21.map fun b => ⟨b, 0, none⟩) ((scnF pl dy).stands.length + 1) c22 (g10.map fun b => ⟨b, 0, none⟩) (scnF pl dy).spells.length c11 (crtF pl dy) (g14.map fun b => ⟨b, 0, none⟩) (crtF pl dy).length c15 ⟨⟨(hI.rowCells 6 rfl r5), rfl, (hI.rowCells 2 rfl r24), (r24.n_eq eLd_len (by decide)), (hI.rowCells 8 rfl r13), rfl, (by omega), (by omega), (by omega)⟩, (hI.rowCells 9 rfl r17), rfl, r17.cap, (by omega), (by omega), (by omega), (by omega)⟩ ((geeseF (scnF pl dy) h).1) 1 10000) ?_)
         intro g30 c31 cl32 w hI r33
         refine seq_c (s_store hI 1 7 [iv (scnF pl dy).lo, iv (scnF pl dy).hi, slv g2 (scnF pl dy).loads.length c3, slv g30 (((scnF pl dy).stands.length + 1) + 1) c31, slv g10 (scnF pl dy).spells.length c11, iv (scnF pl dy).geese, slv g14 (crtF pl dy).length c15] Tryz.sizeOf116 rfl rfl rfl rfl rfl (Nat.le_of_ble_eq_true rfl) ?_)
         intro w hI
         refine seq_nil (rgn (by kernel_rfl) (pu (.bool true) (by kernel_rfl) (pu (.bool true) (by kernel_rfl) (of_ (by kernel_rfl) (of_ (by kernel_rfl) (of_ (by kernel_rfl) (of_ (by kernel_rfl) (of_ (by kernel_rfl) (pu (.bool true) (by kernel_rfl) ?_)))))))))
         refine pu (.bool true) (by kernel_rfl) (seq_nil (wp_seq (rgn (by kernel_rfl) (seq_c (s_loadK hI 1 7 [iv (scnF pl dy).lo, iv (scnF pl dy).hi, slv g2 (scnF pl dy).loads.length c3, slv g30 (((scnF pl dy).stands.length + 1) + 1) c31, slv g10 (scnF pl dy).spells.length c11, iv (scnF pl dy).geese, slv g14 (crtF pl dy).length c15] Tryz.isAgg116 Tryz.sizeOf116 rfl rfl rfl rfl ?_)))))
         refine seq_c (s_callv hI 87 [.agg #[iv (scnF pl dy).lo, iv (scnF pl dy).hi, slv g2 (scnF pl dy).loads.length c3, slv g30 (((scnF pl dy).stands.length + 1) + 1) c31, slv g10 (scnF pl dy).spells.length c11, iv (scnF pl dy).geese, slv g14 (crtF pl dy).length c15]] (.bool ((stoodF (withF (withF (scnF pl dy) h 0 0) ((geeseF (scnF pl dy) h).1) 1 10000) (crtF pl dy)).2)) (by kernel_rfl) (sound_c _ (withF (withF (scnF pl dy) h 0 0) ((geeseF (scnF pl dy) h).1) 1 10000) (g2.map fun b => ⟨b, 0, none⟩) (scnF pl dy).loads.length c3 (g30.map fun b => ⟨b, 0, none⟩) (((scnF pl dy).stands.length + 1) + 1) c31 (g10.map fun b => ⟨b, 0, none⟩) (scnF pl dy).spells.length c11 (crtF pl dy) (g14.map fun b => ⟨b, 0, none⟩) (crtF pl dy).length c15 ⟨⟨(hI.rowCells 7 rfl r5), rfl, (hI.rowCells 0 rfl r33), (r33.n_eq eLd_len (by decide)), (hI.rowCells 9 rfl r13), rfl, (by omega), (by omega), (by omega)⟩, (hI.rowCells 10 rfl r17), rfl, r17.cap, (by omega), (by omega), (by omega), (by omega)⟩ (withF_ok (withF_ok (scn_ok (hourI_ok h2).1 dy) bd00) bd1)) ?_)
         intro w hI
         refine pu (.bool true) (by kernel_rfl) (pu (.bool false) (by kernel_rfl) (seq_c (s_callv hI 112 [.bool ((stoodF (withF (withF (scnF pl dy) h 0 0) ((geeseF (scnF pl dy) h).1) 1 10000) (crtF pl dy)).2), .bool false] (iv (answerI ((stoodF (withF (withF (scnF pl dy) h 0 0) ((geeseF (scnF pl dy) h).1) 1 10000) (crtF pl dy)).2) false)) (by kernel_rfl) (answer_c ((stoodF (withF (withF (scnF pl dy) h 0 0) ((geeseF (scnF pl dy) h).1) 1 10000) (crtF pl dy)).2) false _) ?_)))
         intro w hI
         refine pu (iv (answerI ((stoodF (withF (withF (scnF pl dy) h 0 0) ((geeseF (scnF pl dy) h).1) 1 10000) (crtF pl dy)).2) false)) (by kernel_rfl) (pu (iv 0) (by kernel_rfl) (seq_nil (wp_ret ?_)))
         exact ⟨.tuple #[iv (answerI ((stoodF (withF (withF (scnF pl dy) h 0 0) ((geeseF (scnF pl dy) h).1) 1 10000) (crtF pl dy)).2) false), iv 0], Ret.r2 rfl rfl rfl, ⟨by simp [openC, h2, h3, h5, h6, h7], hI.below⟩⟩
        ·
         refine seq_c (s_callv hI 119 [.agg #[iv (scnF pl dy).lo, iv (scnF pl dy).hi, slv g2 (scnF pl dy).loads.length c3, slv g6 (scnF pl dy).stands.length c7, slv g10 (scnF pl dy).spells.length c11, iv (scnF pl dy).geese, slv g14 (crtF pl dy).length c15], iv h] (.tuple #[iv ((geeseF (scnF pl dy) h).1), .bool false]) (by kernel_rfl) (Does.mono (geese_c _ (scnF pl dy) (g2.map fun b => ⟨b, 0, none⟩) (scnF pl dy).loads.length c3 (g6.map fun b => ⟨b, 0, none⟩) (scnF pl dy).stands.length c7 (g10.map fun b => ⟨b, 0, none⟩) (scnF pl dy).spells.length c11 (crtF pl dy) (g14.map fun b => ⟨b, 0, none⟩) (crtF pl dy).length c15 ⟨⟨(hI.rowCells 6 rfl r5), rfl, (hI.rowCells 7 rfl r9), rfl, (hI.rowCells 8 rfl r13), rfl, (by omega), (by omega), (by omega)⟩, (hI.rowCells 9 rfl r17), rfl, r17.cap, (by omega), (by omega), (by omega), (by omega)⟩ h (isHour_bd (hourI_ok h2).2.1) ⟨((plotB_iff pl).1 (hourI_ok h2).1).g0, ((plotB_iff pl).1 (hourI_ok h2).1).g1⟩) (fun v w' h => ⟨h.1.trans (by first | (rw [h7]; done) | (rw [h7]; rfl)), h.2⟩)) ?_)
         intro w hI
         refine pu (.tuple #[iv ((geeseF (scnF pl dy) h).1), .bool false]) (by kernel_rfl) (pu (iv ((geeseF (scnF pl dy) h).1)) (by kernel_rfl) (pu (.bool false) (by kernel_rfl) (pu (iv ((geeseF (scnF pl dy) h).1)) (by kernel_rfl) (pu (.bool false) (by kernel_rfl) (seq_nil (wp_seq (rgn (by kernel_rfl) (pu (.bool false) (by kernel_rfl) (seq_nil ?_)))))))))
         refine wp_condF rfl (wp_skip (wp_seq (rgn (by kernel_rfl) (seq_c (s_loadK hI 0 7 [iv (scnF pl dy).lo, iv (scnF pl dy).hi, slv g2 (scnF pl dy).loads.length c3, slv g21 ((scnF pl dy).stands.length + 1) c22, slv g10 (scnF pl dy).spells.length c11, iv (scnF pl dy).geese, slv g14 (crtF pl dy).length c15] Tryz.isAgg116 Tryz.sizeOf116 rfl rfl rfl rfl ?_)))))
         refine seq_c (s_callv hI 87 [.agg #[iv (scnF pl dy).lo, iv (scnF pl dy).hi, slv g2 (scnF pl dy).loads.length c3, slv g21 ((scnF pl dy).stands.length + 1) c22, slv g10 (scnF pl dy).spells.length c11, iv (scnF pl dy).geese, slv g14 (crtF pl dy).length c15]] (.bool ((stoodF (withF (scnF pl dy) h 0 0) (crtF pl dy)).2)) (by kernel_rfl) (sound_c _ (withF (scnF pl dy) h 0 0) (g2.map fun b => ⟨b, 0, none⟩) (scnF pl dy).loads.length c3 (g21.map fun b => ⟨b, 0, none⟩) ((scnF pl dy).stands.length + 1) c22 (g10.map fun b => ⟨b, 0, none⟩) (scnF pl dy).spells.length c11 (crtF pl dy) (g14.map fun b => ⟨b, 0, none⟩) (crtF pl dy).length c15 ⟨⟨(hI.rowCells 6 rfl r5), rfl, (hI.rowCells 2 rfl r24), (r24.n_eq eLd_len (by decide)), (hI.rowCells 8 rfl r13), rfl, (by omega), (by omega), (by omega)⟩, (hI.rowCells 9 rfl r17), rfl, r17.cap, (by omega), (by omega), (by omega), (by omega)⟩ (withF_ok (scn_ok (hourI_ok h2).1 dy) bd00)) ?_)
         intro w hI
         refine pu (.bool true) (by kernel_rfl) (pu (.bool false) (by kernel_rfl) (seq_c (s_callv hI 112 [.bool ((stoodF (withF (scnF pl dy) h 0 0) (crtF pl dy)).2), .bool false] (iv (answerI ((stoodF (withF (scnF pl dy) h 0 0) (crtF pl dy)).2) false)) (by kernel_rfl) (answer_c ((stoodF (withF (scnF pl dy) h 0 0) (crtF pl dy)).2) false _) ?_)))
         intro w hI
         refine pu (iv (answerI ((stoodF (withF (scnF pl dy) h 0 0) (crtF pl dy)).2) false)) (by kernel_rfl) (pu (iv 0) (by kernel_rfl) (seq_nil (wp_ret ?_)))
         exact ⟨.tuple #[iv (answerI ((stoodF (withF (scnF pl dy) h 0 0) (crtF pl dy)).2) false), iv 0], Ret.r2 rfl rfl rfl, ⟨by simp [openC, h2, h3, h5, h6, h7], hI.below⟩⟩
       ·
        refine ol_c rfl (s_callv hI 87 [.agg #[iv (scnF pl dy).lo, iv (scnF pl dy).hi, slv g2 (scnF pl dy).loads.length c3, slv g25 ((scnF pl dy).stands.length + 1) c26, slv g10 (scnF pl dy).spells.length c11, iv (scnF pl dy).geese, slv g14 (crtF pl dy).length c15]] (.bool false) (by kernel_rfl) (Does.mono (sound_c _ (withF (scnF pl dy) h 1 10000) (g2.map fun b => ⟨b, 0, none⟩) (scnF pl dy).loads.length c3 (g25.map fun b => ⟨b, 0, none⟩) ((scnF pl dy).stands.length + 1) c26 (g10.map fun b => ⟨b, 0, none⟩) (scnF pl dy).spells.length c11 (crtF pl dy) (g14.map fun b => ⟨b, 0, none⟩) (crtF pl dy).length c15 ⟨⟨(hI.rowCells 5 rfl r5), rfl, (hI.rowCells 0 rfl r28), (r28.n_eq eLd_len (by decide)), (hI.rowCells 7 rfl r13), rfl, (by omega), (by omega), (by omega)⟩, (hI.rowCells 8 rfl r17), rfl, r17.cap, (by omega), (by omega), (by omega), (by omega)⟩ (withF_ok (scn_ok (hourI_ok h2).1 dy) bd1)) (fun v' w' h => ⟨h.1.trans (congrArg Value.bool h6), h.2⟩)) ?_)
        intro w hI
        refine ⟨_, hI, subk (fun _ h => h.pickL [2, 3, 4, 5, 6, 7, 8, 9] (by decide) rfl) ?_⟩
        intro hsub
        refine any_heavy [9] (by kernel_rfl) rfl (each1 ?_)
        intro w hI
        refine ol_c rfl (s_allocI hI [iv 0, iv 0, .slice none 0 0, .slice none 0 0, .slice none 0 0, iv 0, .slice none 0 0] Tryz.zeroValue116 rfl ?_)
        intro b34 w hI
        refine ⟨_, hI, subk (fun _ h => h.pickL [3, 4, 5, 6, 7, 8, 9, 10] (by decide) rfl) ?_⟩
        intro hsub
        refine any_heavy [10] (by kernel_rfl) rfl (each1 ?_)
        intro w hI
        refine ol_c rfl (s_store hI 0 7 [iv (scnF pl dy).lo, iv (scnF pl dy).hi, slv g2 (scnF pl dy).loads.length c3, slv g21 ((scnF pl dy).stands.length + 1) c22, slv g10 (scnF pl dy).spells.length c11, iv (scnF pl dy).geese, slv g14 (crtF pl dy).length c15] Tryz.sizeOf116 rfl rfl rfl rfl rfl (Nat.le_of_ble_eq_true rfl) ?_)
        intro w hI
        refine ⟨_, hI, subk (fun _ h => h.pickL [3, 4, 5, 6, 7, 8, 9, 10] (by decide) rfl) ?_⟩
        intro hsub
        refine alp 11 (.bool false) hsub rfl (by kernel_rfl) (fun _ => (by kernel_rfl)) ?_
        refine any_end (by kernel_rfl) (fun w hI => ?_)
        refine wp_seq (wp_seq (rgn (by kernel_rfl) (seq_c (s_loadK hI 5 7 [iv (scnF pl dy).lo, iv (scnF pl dy).hi, slv g2 (scnF pl dy).loads.length c3, slv g6 (scnF pl dy).stands.length c7, slv g10 (scnF pl dy).spells.length c11, iv (scnF pl dy).geese, slv g14 (crtF pl dy).length c15] Tryz.isAgg116 Tryz.sizeOf116 rfl rfl rfl rfl ?_))))
        refine pu (iv h) (by kernel_rfl) ?_
        rcases Bool.eq_false_or_eq_true ((geeseF (scnF pl dy) h).2) with h8 | h8
        ·
         refine seq_c (s_callv hI 119 [.agg #[iv (scnF pl dy).lo, iv (scnF pl dy).hi, slv g2 (scnF pl dy).loads.length c3, slv g6 (scnF pl dy).stands.length c7, slv g10 (scnF pl dy).spells.length c11, iv (scnF pl dy).geese, slv g14 (crtF pl dy).length c15], iv h] (.tuple #[iv ((geeseF (scnF pl dy) h).1), .bool true]) (by kernel_rfl) (Does.mono (geese_c _ (scnF pl dy) (g2.map fun b => ⟨b, 0, none⟩) (scnF pl dy).loads.length c3 (g6.map fun b => ⟨b, 0, none⟩) (scnF pl dy).stands.length c7 (g10.map fun b => ⟨b, 0, none⟩) (scnF pl dy).spells.length c11 (crtF pl dy) (g14.map fun b => ⟨b, 0, none⟩) (crtF pl dy).length c15 ⟨⟨(hI.rowCells 6 rfl r5), rfl, (hI.rowCells 7 rfl r9), rfl, (hI.rowCells 8 rfl r13), rfl, (by omega), (by omega), (by omega)⟩, (hI.rowCells 9 rfl r17), rfl, r17.cap, (by omega), (by omega), (by omega), (by omega)⟩ h (isHour_bd (hourI_ok h2).2.1) ⟨((plotB_iff pl).1 (hourI_ok h2).1).g0, ((plotB_iff pl).1 (hourI_ok h2).1).g1⟩) (fun v w' h => ⟨h.1.trans (by first | (rw [h8]; done) | (rw [h8]; rfl)), h.2⟩)) ?_)
         intro w hI
         refine pu (.tuple #[iv ((geeseF (scnF pl dy) h).1), .bool true]) (by kernel_rfl) (pu (iv ((geeseF (scnF pl dy) h).1)) (by kernel_rfl) (pu (.bool true) (by kernel_rfl) (pu (iv ((geeseF (scnF pl dy) h).1)) (by kernel_rfl) (pu (.bool true) (by kernel_rfl) (seq_nil (wp_seq (rgn (by kernel_rfl) (pu (.bool true) (by kernel_rfl) (seq_nil ?_)))))))))
         refine wp_condT rfl (wp_seq (rgn (by kernel_rfl) (seq_c (s_loadK hI 0 7 [iv (scnF pl dy).lo, iv (scnF pl dy).hi, slv g2 (scnF pl dy).loads.length c3, slv g21 ((scnF pl dy).stands.length + 1) c22, slv g10 (scnF pl dy).spells.length c11, iv (scnF pl dy).geese, slv g14 (crtF pl dy).length c15] Tryz.isAgg116 Tryz.sizeOf116 rfl rfl rfl rfl ?_))))
         refine pu (iv ((geeseF (scnF pl dy) h).1)) (by kernel_rfl) (seq_c (s_loadK hI 3 2 [iv 1, iv 10000] Tryz.isAgg23 Tryz.sizeOf23 rfl rfl rfl rfl ?_))
         refine seq_c (s_callNewF hI 118 [.agg #[iv (scnF pl dy).lo, iv (scnF pl dy).hi, slv g2 (scnF pl dy).loads.length c3, slv g21 ((scnF pl dy).stands.length + 1) c22, slv g10 (scnF pl dy).spells.length c11, iv (scnF pl dy).geese, slv g14 (crtF pl dy).length c15], iv ((geeseF (scnF pl dy) h).1), .agg #[iv 1, iv 10000]] (fun v1 => .agg #[iv (scnF pl dy).lo, iv (scnF pl dy).hi, slv g2 (scnF pl dy).loads.length c3, v1, slv g10 (scnF pl dy).spells.length c11, iv (scnF pl dy).geese, slv g14 (crtF pl dy).length c15]) (by kernel_rfl) (with_c _ (withF (scnF pl dy) h 0 0) (g2.map fun b => ⟨b, 0, none⟩) (scnF pl dy).loads.length c3 (g21.map fun b => ⟨b, 0, none⟩) ((scnF pl dy).stands.length + 1) c22 (g10.map fun b => ⟨b, 0, none⟩) (scnF pl dy).spells.length c11 (crtF pl dy) (g14.map fun b => ⟨b, 0, none⟩) (crtF pl dy).length c15 ⟨⟨(hI.rowCells 6 rfl r5), rfl, (hI.rowCells 2 rfl r24), (r24.n_eq eLd_len (by decide)), (hI.rowCells 8 rfl r13), rfl, (by omega), (by omega), (by omega)⟩, (hI.rowCells 9 rfl r17), rfl, r17.cap, (by omega), (by omega), (by omega), (by omega)⟩ ((geeseF (scnF pl dy) h).1) 1 10000) ?_)
         intro g35 c36 cl37 w hI r38
         refine seq_c (s_store hI 1 7 [iv (scnF pl dy).lo, iv (scnF pl dy).hi, slv g2 (scnF pl dy).loads.length c3, slv g35 (((scnF pl dy).stands.length + 1) + 1) c36, slv g10 (scnF pl dy).spells.length c11, iv (scnF pl dy).geese, slv g14 (crtF pl dy).length c15] Tryz.sizeOf116 rfl rfl rfl rfl rfl (Nat.le_of_ble_eq_true rfl) ?_)
         intro w hI
         refine seq_nil (rgn (by kernel_rfl) (pu (.bool false) (by kernel_rfl) (pu (.bool false) (by kernel_rfl) (seq_on (by kernel_rfl) (s_loadK hI 6 7 [iv (scnF pl dy).lo, iv (scnF pl dy).hi, slv g2 (scnF pl dy).loads.length c3, slv g6 (scnF pl dy).stands.length c7, slv g10 (scnF pl dy).spells.length c11, iv (scnF pl dy).geese, slv g14 (crtF pl dy).length c15] Tryz.isAgg116 Tryz.sizeOf116 rfl rfl rfl rfl ?_)))))
         refine puo (iv ((geeseF (scnF pl dy) h).1)) ⟨(by kernel_rfl), (by kernel_rfl)⟩ (seq_on (by kernel_rfl) (s_loadK hI 5 2 [iv 0, iv 0] Tryz.isAgg23 Tryz.sizeOf23 rfl rfl rfl rfl ?_))
         refine seq_on (by kernel_rfl) (s_callNewF hI 118 [.agg #[iv (scnF pl dy).lo, iv (scnF pl dy).hi, slv g2 (scnF pl dy).loads.length c3, slv g6 (scnF pl dy).stands.length c7, slv g10 (scnF pl dy).spells.length c11, iv (scnF pl dy).geese, slv g14 (crtF pl dy).length c15], iv ((geeseF (scnF pl dy) h).1), .agg #[iv 0, iv 0]] (fun v1 => .agg #[iv (scnF pl dy).lo, iv (scnF pl dy).hi, slv g2 (scnF pl dy).loads.length c3, v1, slv g10 (scnF pl dy).spells.length c11, iv (scnF pl dy).geese, slv g14 (crtF pl dy).length c15]) (by kernel_rfl) (with_c _ (scnF pl dy) (g2.map fun b => ⟨b, 0, none⟩) (scnF pl dy).loads.length c3 (g6.map fun b => ⟨b, 0, none⟩) (scnF pl dy).stands.length c7 (g10.map fun b => ⟨b, 0, none⟩) (scnF pl dy).spells.length c11 (crtF pl dy) (g14.map fun b => ⟨b, 0, none⟩) (crtF pl dy).length c15 ⟨⟨(hI.rowCells 7 rfl r5), rfl, (hI.rowCells 8 rfl r9), rfl, (hI.rowCells 9 rfl r13), rfl, (by omega), (by omega), (by omega)⟩, (hI.rowCells 10 rfl r17), rfl, r17.cap, (by omega), (by omega), (by omega), (by omega)⟩ ((geeseF (scnF pl dy) h).1) 0 0) ?_)
         intro g39 c40 cl41 w hI r42
         refine seq_on (by kernel_rfl) (s_callb hI 87 [.agg #[iv (scnF pl dy).lo, iv (scnF pl dy).hi, slv g2 (scnF pl dy).loads.length c3, slv g39 ((scnF pl dy).stands.length + 1) c40, slv g10 (scnF pl dy).spells.length c11, iv (scnF pl dy).geese, slv g14 (crtF pl dy).length c15]] ((stoodF (withF (scnF pl dy) ((geeseF (scnF pl dy) h).1) 0 0) (crtF pl dy)).2) (by kernel_rfl) (sound_c _ (withF (scnF pl dy) ((geeseF (scnF pl dy) h).1) 0 0) (g2.map fun b => ⟨b, 0, none⟩) (scnF pl dy).loads.length c3 (g39.map fun b => ⟨b, 0, none⟩) ((scnF pl dy).stands.length + 1) c40 (g10.map fun b => ⟨b, 0, none⟩) (scnF pl dy).spells.length c11 (crtF pl dy) (g14.map fun b => ⟨b, 0, none⟩) (crtF pl dy).length c15 ⟨⟨(hI.rowCells 8 rfl r5), rfl, (hI.rowCells 0 rfl r42), (r42.n_eq eLd_len (by decide)), (hI.rowCells 10 rfl r13), rfl, (by omega), (by omega), (by omega)⟩, (hI.rowCells 11 rfl r17), rfl, r17.cap, (by omega), (by omega), (by omega), (by omega)⟩ (withF_ok (scn_ok (hourI_ok h2).1 dy) bd00)) ?_ ?_)
         ·intro h9 w hI
          refine pu (.bool true) (by kernel_rfl) (pu (.bool true) (by kernel_rfl) (seq_nil (wp_seq (rgn (by kernel_rfl) (seq_c (s_loadK hI 2 7 [iv (scnF pl dy).lo, iv (scnF pl dy).hi, slv g2 (scnF pl dy).loads.length c3, slv g35 (((scnF pl dy).stands.length + 1) + 1) c36, slv g10 (scnF pl dy).spells.length c11, iv (scnF pl dy).geese, slv g14 (crtF pl dy).length c15] Tryz.isAgg116 Tryz.sizeOf116 rfl rfl rfl rfl ?_))))))
          refine seq_c (s_callv hI 87 [.agg #[iv (scnF pl dy).lo, iv (scnF pl dy).hi, slv g2 (scnF pl dy).loads.length c3, slv g35 (((scnF pl dy).stands.length + 1) + 1) c36, slv g10 (scnF pl dy).spells.length c11, iv (scnF pl dy).geese, slv g14 (crtF pl dy).length c15]] (.bool ((stoodF (withF (withF (scnF pl dy) h 0 0) ((geeseF (scnF pl dy) h).1) 1 10000) (crtF pl dy)).2)) (by kernel_rfl) (sound_c _ (withF (withF (scnF pl dy) h 0 0) ((geeseF (scnF pl dy) h).1) 1 10000) (g2.map fun b => ⟨b, 0, none⟩) (scnF pl dy).loads.length c3 (g35.map fun b => ⟨b, 0, none⟩) (((scnF pl dy).stands.length + 1) + 1) c36 (g10.map fun b => ⟨b, 0, none⟩) (scnF pl dy).spells.length c11 (crtF pl dy) (g14.map fun b => ⟨b, 0, none⟩) (crtF pl dy).length c15 ⟨⟨(hI.rowCells 8 rfl r5), rfl, (hI.rowCells 1 rfl r38), (r38.n_eq eLd_len (by decide)), (hI.rowCells 10 rfl r13), rfl, (by omega), (by omega), (by omega)⟩, (hI.rowCells 11 rfl r17), rfl, r17.cap, (by omega), (by omega), (by omega), (by omega)⟩ (withF_ok (withF_ok (scn_ok (hourI_ok h2).1 dy) bd00) bd1)) ?_)
          intro w hI
          refine pu (.bool true) (by kernel_rfl) (pu (.bool false) (by kernel_rfl) (seq_c (s_callv hI 112 [.bool ((stoodF (withF (withF (scnF pl dy) h 0 0) ((geeseF (scnF pl dy) h).1) 1 10000) (crtF pl dy)).2), .bool false] (iv (answerI ((stoodF (withF (withF (scnF pl dy) h 0 0) ((geeseF (scnF pl dy) h).1) 1 10000) (crtF pl dy)).2) false)) (by kernel_rfl) (answer_c ((stoodF (withF (withF (scnF pl dy) h 0 0) ((geeseF (scnF pl dy) h).1) 1 10000) (crtF pl dy)).2) false _) ?_)))
          intro w hI
          refine pu (iv (answerI ((stoodF (withF (withF (scnF pl dy) h 0 0) ((geeseF (scnF pl dy) h).1) 1 10000) (crtF pl dy)).2) false)) (by kernel_rfl) (pu (iv 0) (by kernel_rfl) (seq_nil (wp_ret ?_)))
          exact ⟨.tuple #[iv (answerI ((stoodF (withF (withF (scnF pl dy) h 0 0) ((geeseF (scnF pl dy) h).1) 1 10000) (crtF pl dy)).2) false), iv 0], Ret.r2 rfl rfl rfl, ⟨by simp [openC, h2, h3, h5, h6, h8, h9], hI.below⟩⟩
         ·intro h10 w hI
          refine pu (.bool false) (by kernel_rfl) (pu (.bool false) (by kernel_rfl) (seq_nil (wp_seq (rgn (by kernel_rfl) (seq_c (s_loadK hI 2 7 [iv (scnF pl dy).lo, iv (scnF pl dy).hi, slv g2 (scnF pl dy).loads.length c3, slv g35 (((scnF pl dy).stands.length + 1) + 1) c36, slv g10 (scnF pl dy).spells.length c11, iv (scnF pl dy).geese, slv g14 (crtF pl dy).length c15] Tryz.isAgg116 Tryz.sizeOf116 rfl rfl rfl rfl ?_))))))
          refine seq_c (s_callv hI 87 [.agg #[iv (scnF pl dy).lo, iv (scnF pl dy).hi, slv g2 (scnF pl dy).loads.length c3, slv g35 (((scnF pl dy).stands.length + 1) + 1) c36, slv g10 (scnF pl dy).spells.length c11, iv (scnF pl dy).geese, slv g14 (crtF pl dy).length c15]] (.bool ((stoodF (withF (withF (scnF pl dy) h 0 0) ((geeseF (scnF pl dy) h).1) 1 10000) (crtF pl dy)).2)) (by kernel_rfl) (sound_c _ (withF (withF (scnF pl dy) h 0 0) ((geeseF (scnF pl dy) h).1) 1 10000) (g2.map fun b => ⟨b, 0, none⟩) (scnF pl dy).loads.length c3 (g35.map fun b => ⟨b, 0, none⟩) (((scnF pl dy).stands.length + 1) + 1) c36 (g10.map fun b => ⟨b, 0, none⟩) (scnF pl dy).spells.length c11 (crtF pl dy) (g14.map fun b => ⟨b, 0, none⟩) (crtF pl dy).length c15 ⟨⟨(hI.rowCells 8 rfl r5), rfl, (hI.rowCells 1 rfl r38), (r38.n_eq eLd_len (by decide)), (hI.rowCells 10 rfl r13), rfl, (by omega), (by omega), (by omega)⟩, (hI.rowCells 11 rfl r17), rfl, r17.cap, (by omega), (by omega), (by omega), (by omega)⟩ (withF_ok (withF_ok (scn_ok (hourI_ok h2).1 dy) bd00) bd1)) ?_)
          intro w hI
          refine pu (.bool false) (by kernel_rfl) (pu (.bool true) (by kernel_rfl) (seq_c (s_callv hI 112 [.bool ((stoodF (withF (withF (scnF pl dy) h 0 0) ((geeseF (scnF pl dy) h).1) 1 10000) (crtF pl dy)).2), .bool true] (iv (answerI ((stoodF (withF (withF (scnF pl dy) h 0 0) ((geeseF (scnF pl dy) h).1) 1 10000) (crtF pl dy)).2) true)) (by kernel_rfl) (answer_c ((stoodF (withF (withF (scnF pl dy) h 0 0) ((geeseF (scnF pl dy) h).1) 1 10000) (crtF pl dy)).2) true _) ?_)))
          intro w hI
          refine pu (iv (answerI ((stoodF (withF (withF (scnF pl dy) h 0 0) ((geeseF (scnF pl dy) h).1) 1 10000) (crtF pl dy)).2) true)) (by kernel_rfl) (pu (iv 0) (by kernel_rfl) (seq_nil (wp_ret ?_)))
          exact ⟨.tuple #[iv (answerI ((stoodF (withF (withF (scnF pl dy) h 0 0) ((geeseF (scnF pl dy) h).1) 1 10000) (crtF pl dy)).2) true), iv 0], Ret.r2 rfl rfl rfl, ⟨by simp [openC, h2, h3, h5, h6, h8, h10], hI.below⟩⟩
        ·
         refine seq_c (s_callv hI 119 [.agg #[iv (scnF pl dy).lo, iv (scnF pl dy).hi, slv g2 (scnF pl dy).loads.length c3, slv g6 (scnF pl dy).stands.length c7, slv g10 (scnF pl dy).spells.length c11, iv (scnF pl dy).geese, slv g14 (crtF pl dy).length c15], iv h] (.tuple #[iv ((geeseF (scnF pl dy) h).1), .bool false]) (by kernel_rfl) (Does.mono (geese_c _ (scnF pl dy) (g2.map fun b => ⟨b, 0, none⟩) (scnF pl dy).loads.length c3 (g6.map fun b => ⟨b, 0, none⟩) (scnF pl dy).stands.length c7 (g10.map fun b => ⟨b, 0, none⟩) (scnF pl dy).spells.length c11 (crtF pl dy) (g14.map fun b => ⟨b, 0, none⟩) (crtF pl dy).length c15 ⟨⟨(hI.rowCells 6 rfl r5), rfl, (hI.rowCells 7 rfl r9), rfl, (hI.rowCells 8 rfl r13), rfl, (by omega), (by omega), (by omega)⟩, (hI.rowCells 9 rfl r17), rfl, r17.cap, (by omega), (by omega), (by omega), (by omega)⟩ h (isHour_bd (hourI_ok h2).2.1) ⟨((plotB_iff pl).1 (hourI_ok h2).1).g0, ((plotB_iff pl).1 (hourI_ok h2).1).g1⟩) (fun v w' h => ⟨h.1.trans (by first | (rw [h8]; done) | (rw [h8]; rfl)), h.2⟩)) ?_)
         intro w hI
         refine pu (.tuple #[iv ((geeseF (scnF pl dy) h).1), .bool false]) (by kernel_rfl) (pu (iv ((geeseF (scnF pl dy) h).1)) (by kernel_rfl) (pu (.bool false) (by kernel_rfl) (pu (iv ((geeseF (scnF pl dy) h).1)) (by kernel_rfl) (pu (.bool false) (by kernel_rfl) (seq_nil (wp_seq (rgn (by kernel_rfl) (pu (.bool false) (by kernel_rfl) (seq_nil ?_)))))))))
         refine wp_condF rfl (wp_skip (wp_seq (rgn (by kernel_rfl) (seq_c (s_loadK hI 0 7 [iv (scnF pl dy).lo, iv (scnF pl dy).hi, slv g2 (scnF pl dy).loads.length c3, slv g21 ((scnF pl dy).stands.length + 1) c22, slv g10 (scnF pl dy).spells.length c11, iv (scnF pl dy).geese, slv g14 (crtF pl dy).length c15] Tryz.isAgg116 Tryz.sizeOf116 rfl rfl rfl rfl ?_)))))
         refine seq_c (s_callv hI 87 [.agg #[iv (scnF pl dy).lo, iv (scnF pl dy).hi, slv g2 (scnF pl dy).loads.length c3, slv g21 ((scnF pl dy).stands.length + 1) c22, slv g10 (scnF pl dy).spells.length c11, iv (scnF pl dy).geese, slv g14 (crtF pl dy).length c15]] (.bool ((stoodF (withF (scnF pl dy) h 0 0) (crtF pl dy)).2)) (by kernel_rfl) (sound_c _ (withF (scnF pl dy) h 0 0) (g2.map fun b => ⟨b, 0, none⟩) (scnF pl dy).loads.length c3 (g21.map fun b => ⟨b, 0, none⟩) ((scnF pl dy).stands.length + 1) c22 (g10.map fun b => ⟨b, 0, none⟩) (scnF pl dy).spells.length c11 (crtF pl dy) (g14.map fun b => ⟨b, 0, none⟩) (crtF pl dy).length c15 ⟨⟨(hI.rowCells 6 rfl r5), rfl, (hI.rowCells 2 rfl r24), (r24.n_eq eLd_len (by decide)), (hI.rowCells 8 rfl r13), rfl, (by omega), (by omega), (by omega)⟩, (hI.rowCells 9 rfl r17), rfl, r17.cap, (by omega), (by omega), (by omega), (by omega)⟩ (withF_ok (scn_ok (hourI_ok h2).1 dy) bd00)) ?_)
         intro w hI
         refine pu (.bool false) (by kernel_rfl) (pu (.bool true) (by kernel_rfl) (seq_c (s_callv hI 112 [.bool ((stoodF (withF (scnF pl dy) h 0 0) (crtF pl dy)).2), .bool true] (iv (answerI ((stoodF (withF (scnF pl dy) h 0 0) (crtF pl dy)).2) true)) (by kernel_rfl) (answer_c ((stoodF (withF (scnF pl dy) h 0 0) (crtF pl dy)).2) true _) ?_)))
         intro w hI
         refine pu (iv (answerI ((stoodF (withF (scnF pl dy) h 0 0) (crtF pl dy)).2) true)) (by kernel_rfl) (pu (iv 0) (by kernel_rfl) (seq_nil (wp_ret ?_)))
         exact ⟨.tuple #[iv (answerI ((stoodF (withF (scnF pl dy) h 0 0) (crtF pl dy)).2) true), iv 0], Ret.r2 rfl rfl rfl, ⟨by simp [openC, h2, h3, h5, h6, h8], hI.below⟩⟩
      ·intro w hI
       refine ol_c rfl (s_allocI hI [iv 0, iv 0, .slice none 0 0, .slice none 0 0, .slice none 0 0, iv 0, .slice none 0 0] Tryz.zeroValue116 rfl ?_)
       intro b43 w hI
       refine ⟨_, hI, subk (fun _ h => h.pickL [3, 4, 5, 6, 7, 8, 9, 10] (by decide) rfl) ?_⟩
       intro hsub
       refine any_heavy [8] (by kernel_rfl) rfl (each1 ?_)
       intro w hI
       rcases Bool.eq_false_or_eq_true ((stoodF (withF (scnF pl dy) h 1 10000) (crtF pl dy)).2) with h11 | h11
       ·
        refine ol_c rfl (s_callv hI 87 [.agg #[iv (scnF pl dy).lo, iv (scnF pl dy).hi, slv g2 (scnF pl dy).loads.length c3, slv g25 ((scnF pl dy).stands.length + 1) c26, slv g10 (scnF pl dy).spells.length c11, iv (scnF pl dy).geese, slv g14 (crtF pl dy).length c15]] (.bool true) (by kernel_rfl) (Does.mono (sound_c _ (withF (scnF pl dy) h 1 10000) (g2.map fun b => ⟨b, 0, none⟩) (scnF pl dy).loads.length c3 (g25.map fun b => ⟨b, 0, none⟩) ((scnF pl dy).stands.length + 1) c26 (g10.map fun b => ⟨b, 0, none⟩) (scnF pl dy).spells.length c11 (crtF pl dy) (g14.map fun b => ⟨b, 0, none⟩) (crtF pl dy).length c15 ⟨⟨(hI.rowCells 6 rfl r5), rfl, (hI.rowCells 1 rfl r28), (r28.n_eq eLd_len (by decide)), (hI.rowCells 8 rfl r13), rfl, (by omega), (by omega), (by omega)⟩, (hI.rowCells 9 rfl r17), rfl, r17.cap, (by omega), (by omega), (by omega), (by omega)⟩ (withF_ok (scn_ok (hourI_ok h2).1 dy) bd1)) (fun v' w' h => ⟨h.1.trans (congrArg Value.bool h11), h.2⟩)) ?_)
        intro w hI
        refine ⟨_, hI, subk (fun _ h => h.pickL [3, 4, 5, 6, 7, 8, 9, 10] (by decide) rfl) ?_⟩
        intro hsub
        refine any_heavy [10] (by kernel_rfl) rfl (each1 ?_)
        intro w hI
        refine ol_c rfl (s_store hI 0 7 [iv (scnF pl dy).lo, iv (scnF pl dy).hi, slv g2 (scnF pl dy).loads.length c3, slv g21 ((scnF pl dy).stands.length + 1) c22, slv g10 (scnF pl dy).spells.length c11, iv (scnF pl dy).geese, slv g14 (crtF pl dy).length c15] Tryz.sizeOf116 rfl rfl rfl rfl rfl (Nat.le_of_ble_eq_true rfl) ?_)
        intro w hI
        refine ⟨_, hI, subk (fun _ h => h.pickL [3, 4, 5, 6, 7, 8, 9, 10] (by decide) rfl) ?_⟩
        intro hsub
        refine alp 11 (.bool true) hsub rfl (by kernel_rfl) (fun _ => (by kernel_rfl)) ?_
        refine any_end (by kernel_rfl) (fun w hI => ?_)
        refine wp_seq (wp_seq (rgn (by kernel_rfl) (seq_c (s_loadK hI 5 7 [iv (scnF pl dy).lo, iv (scnF pl dy).hi, slv g2 (scnF pl dy).loads.length c3, slv g6 (scnF pl dy).stands.length c7, slv g10 (scnF pl dy).spells.length c11, iv (scnF pl dy).geese, slv g14 (crtF pl dy).length c15] Tryz.isAgg116 Tryz.sizeOf116 rfl rfl rfl rfl ?_))))
        refine pu (iv h) (by kernel_rfl) ?_
        rcases Bool.eq_false_or_eq_true ((geeseF (scnF pl dy) h).2) with h12 | h12
        ·
         refine seq_c (s_callv hI 119 [.agg #[iv (scnF pl dy).lo, iv (scnF pl dy).hi, slv g2 (scnF pl dy).loads.length c3, slv g6 (scnF pl dy).stands.length c7, slv g10 (scnF pl dy).spells.length c11, iv (scnF pl dy).geese, slv g14 (crtF pl dy).length c15], iv h] (.tuple #[iv ((geeseF (scnF pl dy) h).1), .bool true]) (by kernel_rfl) (Does.mono (geese_c _ (scnF pl dy) (g2.map fun b => ⟨b, 0, none⟩) (scnF pl dy).loads.length c3 (g6.map fun b => ⟨b, 0, none⟩) (scnF pl dy).stands.length c7 (g10.map fun b => ⟨b, 0, none⟩) (scnF pl dy).spells.length c11 (crtF pl dy) (g14.map fun b => ⟨b, 0, none⟩) (crtF pl dy).length c15 ⟨⟨(hI.rowCells 6 rfl r5), rfl, (hI.rowCells 7 rfl r9), rfl, (hI.rowCells 8 rfl r13), rfl, (by omega), (by omega), (by omega)⟩, (hI.rowCells 9 rfl r17), rfl, r17.cap, (by omega), (by omega), (by omega), (by omega)⟩ h (isHour_bd (hourI_ok h2).2.1) ⟨((plotB_iff pl).1 (hourI_ok h2).1).g0, ((plotB_iff pl).1 (hourI_ok h2).1).g1⟩) (fun v w' h => ⟨h.1.trans (by first | (rw [h12]; done) | (rw [h12]; rfl)), h.2⟩)) ?_)
         intro w hI
         refine pu (.tuple #[iv ((geeseF (scnF pl dy) h).1), .bool true]) (by kernel_rfl) (pu (iv ((geeseF (scnF pl dy) h).1)) (by kernel_rfl) (pu (.bool true) (by kernel_rfl) (pu (iv ((geeseF (scnF pl dy) h).1)) (by kernel_rfl) (pu (.bool true) (by kernel_rfl) (seq_nil (wp_seq (rgn (by kernel_rfl) (pu (.bool true) (by kernel_rfl) (seq_nil ?_)))))))))
         refine wp_condT rfl (wp_seq (rgn (by kernel_rfl) (seq_c (s_loadK hI 0 7 [iv (scnF pl dy).lo, iv (scnF pl dy).hi, slv g2 (scnF pl dy).loads.length c3, slv g21 ((scnF pl dy).stands.length + 1) c22, slv g10 (scnF pl dy).spells.length c11, iv (scnF pl dy).geese, slv g14 (crtF pl dy).length c15] Tryz.isAgg116 Tryz.sizeOf116 rfl rfl rfl rfl ?_))))
         refine pu (iv ((geeseF (scnF pl dy) h).1)) (by kernel_rfl) (seq_c (s_loadK hI 3 2 [iv 1, iv 10000] Tryz.isAgg23 Tryz.sizeOf23 rfl rfl rfl rfl ?_))
         refine seq_c (s_callNewF hI 118 [.agg #[iv (scnF pl dy).lo, iv (scnF pl dy).hi, slv g2 (scnF pl dy).loads.length c3, slv g21 ((scnF pl dy).stands.length + 1) c22, slv g10 (scnF pl dy).spells.length c11, iv (scnF pl dy).geese, slv g14 (crtF pl dy).length c15], iv ((geeseF (scnF pl dy) h).1), .agg #[iv 1, iv 10000]] (fun v1 => .agg #[iv (scnF pl dy).lo, iv (scnF pl dy).hi, slv g2 (scnF pl dy).loads.length c3, v1, slv g10 (scnF pl dy).spells.length c11, iv (scnF pl dy).geese, slv g14 (crtF pl dy).length c15]) (by kernel_rfl) (with_c _ (withF (scnF pl dy) h 0 0) (g2.map fun b => ⟨b, 0, none⟩) (scnF pl dy).loads.length c3 (g21.map fun b => ⟨b, 0, none⟩) ((scnF pl dy).stands.length + 1) c22 (g10.map fun b => ⟨b, 0, none⟩) (scnF pl dy).spells.length c11 (crtF pl dy) (g14.map fun b => ⟨b, 0, none⟩) (crtF pl dy).length c15 ⟨⟨(hI.rowCells 6 rfl r5), rfl, (hI.rowCells 2 rfl r24), (r24.n_eq eLd_len (by decide)), (hI.rowCells 8 rfl r13), rfl, (by omega), (by omega), (by omega)⟩, (hI.rowCells 9 rfl r17), rfl, r17.cap, (by omega), (by omega), (by omega), (by omega)⟩ ((geeseF (scnF pl dy) h).1) 1 10000) ?_)
         intro g44 c45 cl46 w hI r47
         refine seq_c (s_store hI 1 7 [iv (scnF pl dy).lo, iv (scnF pl dy).hi, slv g2 (scnF pl dy).loads.length c3, slv g44 (((scnF pl dy).stands.length + 1) + 1) c45, slv g10 (scnF pl dy).spells.length c11, iv (scnF pl dy).geese, slv g14 (crtF pl dy).length c15] Tryz.sizeOf116 rfl rfl rfl rfl rfl (Nat.le_of_ble_eq_true rfl) ?_)
         intro w hI
         refine seq_nil (rgn (by kernel_rfl) (pu (.bool true) (by kernel_rfl) (pu (.bool true) (by kernel_rfl) (of_ (by kernel_rfl) (of_ (by kernel_rfl) (of_ (by kernel_rfl) (of_ (by kernel_rfl) (of_ (by kernel_rfl) (pu (.bool true) (by kernel_rfl) ?_)))))))))
         refine pu (.bool true) (by kernel_rfl) (seq_nil (wp_seq (rgn (by kernel_rfl) (seq_c (s_loadK hI 1 7 [iv (scnF pl dy).lo, iv (scnF pl dy).hi, slv g2 (scnF pl dy).loads.length c3, slv g44 (((scnF pl dy).stands.length + 1) + 1) c45, slv g10 (scnF pl dy).spells.length c11, iv (scnF pl dy).geese, slv g14 (crtF pl dy).length c15] Tryz.isAgg116 Tryz.sizeOf116 rfl rfl rfl rfl ?_)))))
         refine seq_c (s_callv hI 87 [.agg #[iv (scnF pl dy).lo, iv (scnF pl dy).hi, slv g2 (scnF pl dy).loads.length c3, slv g44 (((scnF pl dy).stands.length + 1) + 1) c45, slv g10 (scnF pl dy).spells.length c11, iv (scnF pl dy).geese, slv g14 (crtF pl dy).length c15]] (.bool ((stoodF (withF (withF (scnF pl dy) h 0 0) ((geeseF (scnF pl dy) h).1) 1 10000) (crtF pl dy)).2)) (by kernel_rfl) (sound_c _ (withF (withF (scnF pl dy) h 0 0) ((geeseF (scnF pl dy) h).1) 1 10000) (g2.map fun b => ⟨b, 0, none⟩) (scnF pl dy).loads.length c3 (g44.map fun b => ⟨b, 0, none⟩) (((scnF pl dy).stands.length + 1) + 1) c45 (g10.map fun b => ⟨b, 0, none⟩) (scnF pl dy).spells.length c11 (crtF pl dy) (g14.map fun b => ⟨b, 0, none⟩) (crtF pl dy).length c15 ⟨⟨(hI.rowCells 7 rfl r5), rfl, (hI.rowCells 0 rfl r47), (r47.n_eq eLd_len (by decide)), (hI.rowCells 9 rfl r13), rfl, (by omega), (by omega), (by omega)⟩, (hI.rowCells 10 rfl r17), rfl, r17.cap, (by omega), (by omega), (by omega), (by omega)⟩ (withF_ok (withF_ok (scn_ok (hourI_ok h2).1 dy) bd00) bd1)) ?_)
         intro w hI
         refine pu (.bool true) (by kernel_rfl) (pu (.bool false) (by kernel_rfl) (seq_c (s_callv hI 112 [.bool ((stoodF (withF (withF (scnF pl dy) h 0 0) ((geeseF (scnF pl dy) h).1) 1 10000) (crtF pl dy)).2), .bool false] (iv (answerI ((stoodF (withF (withF (scnF pl dy) h 0 0) ((geeseF (scnF pl dy) h).1) 1 10000) (crtF pl dy)).2) false)) (by kernel_rfl) (answer_c ((stoodF (withF (withF (scnF pl dy) h 0 0) ((geeseF (scnF pl dy) h).1) 1 10000) (crtF pl dy)).2) false _) ?_)))
         intro w hI
         refine pu (iv (answerI ((stoodF (withF (withF (scnF pl dy) h 0 0) ((geeseF (scnF pl dy) h).1) 1 10000) (crtF pl dy)).2) false)) (by kernel_rfl) (pu (iv 0) (by kernel_rfl) (seq_nil (wp_ret ?_)))
         exact ⟨.tuple #[iv (answerI ((stoodF (withF (withF (scnF pl dy) h 0 0) ((geeseF (scnF pl dy) h).1) 1 10000) (crtF pl dy)).2) false), iv 0], Ret.r2 rfl rfl rfl, ⟨by simp [openC, h2, h3, h5, h11, h12], hI.below⟩⟩
        ·
         refine seq_c (s_callv hI 119 [.agg #[iv (scnF pl dy).lo, iv (scnF pl dy).hi, slv g2 (scnF pl dy).loads.length c3, slv g6 (scnF pl dy).stands.length c7, slv g10 (scnF pl dy).spells.length c11, iv (scnF pl dy).geese, slv g14 (crtF pl dy).length c15], iv h] (.tuple #[iv ((geeseF (scnF pl dy) h).1), .bool false]) (by kernel_rfl) (Does.mono (geese_c _ (scnF pl dy) (g2.map fun b => ⟨b, 0, none⟩) (scnF pl dy).loads.length c3 (g6.map fun b => ⟨b, 0, none⟩) (scnF pl dy).stands.length c7 (g10.map fun b => ⟨b, 0, none⟩) (scnF pl dy).spells.length c11 (crtF pl dy) (g14.map fun b => ⟨b, 0, none⟩) (crtF pl dy).length c15 ⟨⟨(hI.rowCells 6 rfl r5), rfl, (hI.rowCells 7 rfl r9), rfl, (hI.rowCells 8 rfl r13), rfl, (by omega), (by omega), (by omega)⟩, (hI.rowCells 9 rfl r17), rfl, r17.cap, (by omega), (by omega), (by omega), (by omega)⟩ h (isHour_bd (hourI_ok h2).2.1) ⟨((plotB_iff pl).1 (hourI_ok h2).1).g0, ((plotB_iff pl).1 (hourI_ok h2).1).g1⟩) (fun v w' h => ⟨h.1.trans (by first | (rw [h12]; done) | (rw [h12]; rfl)), h.2⟩)) ?_)
         intro w hI
         refine pu (.tuple #[iv ((geeseF (scnF pl dy) h).1), .bool false]) (by kernel_rfl) (pu (iv ((geeseF (scnF pl dy) h).1)) (by kernel_rfl) (pu (.bool false) (by kernel_rfl) (pu (iv ((geeseF (scnF pl dy) h).1)) (by kernel_rfl) (pu (.bool false) (by kernel_rfl) (seq_nil (wp_seq (rgn (by kernel_rfl) (pu (.bool false) (by kernel_rfl) (seq_nil ?_)))))))))
         refine wp_condF rfl (wp_skip (wp_seq (rgn (by kernel_rfl) (seq_c (s_loadK hI 0 7 [iv (scnF pl dy).lo, iv (scnF pl dy).hi, slv g2 (scnF pl dy).loads.length c3, slv g21 ((scnF pl dy).stands.length + 1) c22, slv g10 (scnF pl dy).spells.length c11, iv (scnF pl dy).geese, slv g14 (crtF pl dy).length c15] Tryz.isAgg116 Tryz.sizeOf116 rfl rfl rfl rfl ?_)))))
         refine seq_c (s_callv hI 87 [.agg #[iv (scnF pl dy).lo, iv (scnF pl dy).hi, slv g2 (scnF pl dy).loads.length c3, slv g21 ((scnF pl dy).stands.length + 1) c22, slv g10 (scnF pl dy).spells.length c11, iv (scnF pl dy).geese, slv g14 (crtF pl dy).length c15]] (.bool ((stoodF (withF (scnF pl dy) h 0 0) (crtF pl dy)).2)) (by kernel_rfl) (sound_c _ (withF (scnF pl dy) h 0 0) (g2.map fun b => ⟨b, 0, none⟩) (scnF pl dy).loads.length c3 (g21.map fun b => ⟨b, 0, none⟩) ((scnF pl dy).stands.length + 1) c22 (g10.map fun b => ⟨b, 0, none⟩) (scnF pl dy).spells.length c11 (crtF pl dy) (g14.map fun b => ⟨b, 0, none⟩) (crtF pl dy).length c15 ⟨⟨(hI.rowCells 6 rfl r5), rfl, (hI.rowCells 2 rfl r24), (r24.n_eq eLd_len (by decide)), (hI.rowCells 8 rfl r13), rfl, (by omega), (by omega), (by omega)⟩, (hI.rowCells 9 rfl r17), rfl, r17.cap, (by omega), (by omega), (by omega), (by omega)⟩ (withF_ok (scn_ok (hourI_ok h2).1 dy) bd00)) ?_)
         intro w hI
         refine pu (.bool true) (by kernel_rfl) (pu (.bool false) (by kernel_rfl) (seq_c (s_callv hI 112 [.bool ((stoodF (withF (scnF pl dy) h 0 0) (crtF pl dy)).2), .bool false] (iv (answerI ((stoodF (withF (scnF pl dy) h 0 0) (crtF pl dy)).2) false)) (by kernel_rfl) (answer_c ((stoodF (withF (scnF pl dy) h 0 0) (crtF pl dy)).2) false _) ?_)))
         intro w hI
         refine pu (iv (answerI ((stoodF (withF (scnF pl dy) h 0 0) (crtF pl dy)).2) false)) (by kernel_rfl) (pu (iv 0) (by kernel_rfl) (seq_nil (wp_ret ?_)))
         exact ⟨.tuple #[iv (answerI ((stoodF (withF (scnF pl dy) h 0 0) (crtF pl dy)).2) false), iv 0], Ret.r2 rfl rfl rfl, ⟨by simp [openC, h2, h3, h5, h11, h12], hI.below⟩⟩
       ·
        refine ol_c rfl (s_callv hI 87 [.agg #[iv (scnF pl dy).lo, iv (scnF pl dy).hi, slv g2 (scnF pl dy).loads.length c3, slv g25 ((scnF pl dy).stands.length + 1) c26, slv g10 (scnF pl dy).spells.length c11, iv (scnF pl dy).geese, slv g14 (crtF pl dy).length c15]] (.bool false) (by kernel_rfl) (Does.mono (sound_c _ (withF (scnF pl dy) h 1 10000) (g2.map fun b => ⟨b, 0, none⟩) (scnF pl dy).loads.length c3 (g25.map fun b => ⟨b, 0, none⟩) ((scnF pl dy).stands.length + 1) c26 (g10.map fun b => ⟨b, 0, none⟩) (scnF pl dy).spells.length c11 (crtF pl dy) (g14.map fun b => ⟨b, 0, none⟩) (crtF pl dy).length c15 ⟨⟨(hI.rowCells 6 rfl r5), rfl, (hI.rowCells 1 rfl r28), (r28.n_eq eLd_len (by decide)), (hI.rowCells 8 rfl r13), rfl, (by omega), (by omega), (by omega)⟩, (hI.rowCells 9 rfl r17), rfl, r17.cap, (by omega), (by omega), (by omega), (by omega)⟩ (withF_ok (scn_ok (hourI_ok h2).1 dy) bd1)) (fun v' w' h => ⟨h.1.trans (congrArg Value.bool h11), h.2⟩)) ?_)
        intro w hI
        refine ⟨_, hI, subk (fun _ h => h.pickL [3, 4, 5, 6, 7, 8, 9, 10] (by decide) rfl) ?_⟩
        intro hsub
        refine any_heavy [10] (by kernel_rfl) rfl (each1 ?_)
        intro w hI
        refine ol_c rfl (s_store hI 0 7 [iv (scnF pl dy).lo, iv (scnF pl dy).hi, slv g2 (scnF pl dy).loads.length c3, slv g21 ((scnF pl dy).stands.length + 1) c22, slv g10 (scnF pl dy).spells.length c11, iv (scnF pl dy).geese, slv g14 (crtF pl dy).length c15] Tryz.sizeOf116 rfl rfl rfl rfl rfl (Nat.le_of_ble_eq_true rfl) ?_)
        intro w hI
        refine ⟨_, hI, subk (fun _ h => h.pickL [3, 4, 5, 6, 7, 8, 9, 10] (by decide) rfl) ?_⟩
        intro hsub
        refine alp 11 (.bool false) hsub rfl (by kernel_rfl) (fun _ => (by kernel_rfl)) ?_
        refine any_end (by kernel_rfl) (fun w hI => ?_)
        refine wp_seq (wp_seq (rgn (by kernel_rfl) (seq_c (s_loadK hI 5 7 [iv (scnF pl dy).lo, iv (scnF pl dy).hi, slv g2 (scnF pl dy).loads.length c3, slv g6 (scnF pl dy).stands.length c7, slv g10 (scnF pl dy).spells.length c11, iv (scnF pl dy).geese, slv g14 (crtF pl dy).length c15] Tryz.isAgg116 Tryz.sizeOf116 rfl rfl rfl rfl ?_))))
        refine pu (iv h) (by kernel_rfl) ?_
        rcases Bool.eq_false_or_eq_true ((geeseF (scnF pl dy) h).2) with h13 | h13
        ·
         refine seq_c (s_callv hI 119 [.agg #[iv (scnF pl dy).lo, iv (scnF pl dy).hi, slv g2 (scnF pl dy).loads.length c3, slv g6 (scnF pl dy).stands.length c7, slv g10 (scnF pl dy).spells.length c11, iv (scnF pl dy).geese, slv g14 (crtF pl dy).length c15], iv h] (.tuple #[iv ((geeseF (scnF pl dy) h).1), .bool true]) (by kernel_rfl) (Does.mono (geese_c _ (scnF pl dy) (g2.map fun b => ⟨b, 0, none⟩) (scnF pl dy).loads.length c3 (g6.map fun b => ⟨b, 0, none⟩) (scnF pl dy).stands.length c7 (g10.map fun b => ⟨b, 0, none⟩) (scnF pl dy).spells.length c11 (crtF pl dy) (g14.map fun b => ⟨b, 0, none⟩) (crtF pl dy).length c15 ⟨⟨(hI.rowCells 6 rfl r5), rfl, (hI.rowCells 7 rfl r9), rfl, (hI.rowCells 8 rfl r13), rfl, (by omega), (by omega), (by omega)⟩, (hI.rowCells 9 rfl r17), rfl, r17.cap, (by omega), (by omega), (by omega), (by omega)⟩ h (isHour_bd (hourI_ok h2).2.1) ⟨((plotB_iff pl).1 (hourI_ok h2).1).g0, ((plotB_iff pl).1 (hourI_ok h2).1).g1⟩) (fun v w' h => ⟨h.1.trans (by first | (rw [h13]; done) | (rw [h13]; rfl)), h.2⟩)) ?_)
         intro w hI
         refine pu (.tuple #[iv ((geeseF (scnF pl dy) h).1), .bool true]) (by kernel_rfl) (pu (iv ((geeseF (scnF pl dy) h).1)) (by kernel_rfl) (pu (.bool true) (by kernel_rfl) (pu (iv ((geeseF (scnF pl dy) h).1)) (by kernel_rfl) (pu (.bool true) (by kernel_rfl) (seq_nil (wp_seq (rgn (by kernel_rfl) (pu (.bool true) (by kernel_rfl) (seq_nil ?_)))))))))
         refine wp_condT rfl (wp_seq (rgn (by kernel_rfl) (seq_c (s_loadK hI 0 7 [iv (scnF pl dy).lo, iv (scnF pl dy).hi, slv g2 (scnF pl dy).loads.length c3, slv g21 ((scnF pl dy).stands.length + 1) c22, slv g10 (scnF pl dy).spells.length c11, iv (scnF pl dy).geese, slv g14 (crtF pl dy).length c15] Tryz.isAgg116 Tryz.sizeOf116 rfl rfl rfl rfl ?_))))
         refine pu (iv ((geeseF (scnF pl dy) h).1)) (by kernel_rfl) (seq_c (s_loadK hI 3 2 [iv 1, iv 10000] Tryz.isAgg23 Tryz.sizeOf23 rfl rfl rfl rfl ?_))
         refine seq_c (s_callNewF hI 118 [.agg #[iv (scnF pl dy).lo, iv (scnF pl dy).hi, slv g2 (scnF pl dy).loads.length c3, slv g21 ((scnF pl dy).stands.length + 1) c22, slv g10 (scnF pl dy).spells.length c11, iv (scnF pl dy).geese, slv g14 (crtF pl dy).length c15], iv ((geeseF (scnF pl dy) h).1), .agg #[iv 1, iv 10000]] (fun v1 => .agg #[iv (scnF pl dy).lo, iv (scnF pl dy).hi, slv g2 (scnF pl dy).loads.length c3, v1, slv g10 (scnF pl dy).spells.length c11, iv (scnF pl dy).geese, slv g14 (crtF pl dy).length c15]) (by kernel_rfl) (with_c _ (withF (scnF pl dy) h 0 0) (g2.map fun b => ⟨b, 0, none⟩) (scnF pl dy).loads.length c3 (g21.map fun b => ⟨b, 0, none⟩) ((scnF pl dy).stands.length + 1) c22 (g10.map fun b => ⟨b, 0, none⟩) (scnF pl dy).spells.length c11 (crtF pl dy) (g14.map fun b => ⟨b, 0, none⟩) (crtF pl dy).length c15 ⟨⟨(hI.rowCells 6 rfl r5), rfl, (hI.rowCells 2 rfl r24), (r24.n_eq eLd_len (by decide)), (hI.rowCells 8 rfl r13), rfl, (by omega), (by omega), (by omega)⟩, (hI.rowCells 9 rfl r17), rfl, r17.cap, (by omega), (by omega), (by omega), (by omega)⟩ ((geeseF (scnF pl dy) h).1) 1 10000) ?_)
         intro g48 c49 cl50 w hI r51
         refine seq_c (s_store hI 1 7 [iv (scnF pl dy).lo, iv (scnF pl dy).hi, slv g2 (scnF pl dy).loads.length c3, slv g48 (((scnF pl dy).stands.length + 1) + 1) c49, slv g10 (scnF pl dy).spells.length c11, iv (scnF pl dy).geese, slv g14 (crtF pl dy).length c15] Tryz.sizeOf116 rfl rfl rfl rfl rfl (Nat.le_of_ble_eq_true rfl) ?_)
         intro w hI
         refine seq_nil (rgn (by kernel_rfl) (pu (.bool false) (by kernel_rfl) (pu (.bool false) (by kernel_rfl) (seq_on (by kernel_rfl) (s_loadK hI 6 7 [iv (scnF pl dy).lo, iv (scnF pl dy).hi, slv g2 (scnF pl dy).loads.length c3, slv g6 (scnF pl dy).stands.length c7, slv g10 (scnF pl dy).spells.length c11, iv (scnF pl dy).geese, slv g14 (crtF pl dy).length c15] Tryz.isAgg116 Tryz.sizeOf116 rfl rfl rfl rfl ?_)))))
         refine puo (iv ((geeseF (scnF pl dy) h).1)) ⟨(by kernel_rfl), (by kernel_rfl)⟩ (seq_on (by kernel_rfl) (s_loadK hI 5 2 [iv 0, iv 0] Tryz.isAgg23 Tryz.sizeOf23 rfl rfl rfl rfl ?_))
         refine seq_on (by kernel_rfl) (s_callNewF hI 118 [.agg #[iv (scnF pl dy).lo, iv (scnF pl dy).hi, slv g2 (scnF pl dy).loads.length c3, slv g6 (scnF pl dy).stands.length c7, slv g10 (scnF pl dy).spells.length c11, iv (scnF pl dy).geese, slv g14 (crtF pl dy).length c15], iv ((geeseF (scnF pl dy) h).1), .agg #[iv 0, iv 0]] (fun v1 => .agg #[iv (scnF pl dy).lo, iv (scnF pl dy).hi, slv g2 (scnF pl dy).loads.length c3, v1, slv g10 (scnF pl dy).spells.length c11, iv (scnF pl dy).geese, slv g14 (crtF pl dy).length c15]) (by kernel_rfl) (with_c _ (scnF pl dy) (g2.map fun b => ⟨b, 0, none⟩) (scnF pl dy).loads.length c3 (g6.map fun b => ⟨b, 0, none⟩) (scnF pl dy).stands.length c7 (g10.map fun b => ⟨b, 0, none⟩) (scnF pl dy).spells.length c11 (crtF pl dy) (g14.map fun b => ⟨b, 0, none⟩) (crtF pl dy).length c15 ⟨⟨(hI.rowCells 7 rfl r5), rfl, (hI.rowCells 8 rfl r9), rfl, (hI.rowCells 9 rfl r13), rfl, (by omega), (by omega), (by omega)⟩, (hI.rowCells 10 rfl r17), rfl, r17.cap, (by omega), (by omega), (by omega), (by omega)⟩ ((geeseF (scnF pl dy) h).1) 0 0) ?_)
         intro g52 c53 cl54 w hI r55
         refine seq_on (by kernel_rfl) (s_callb hI 87 [.agg #[iv (scnF pl dy).lo, iv (scnF pl dy).hi, slv g2 (scnF pl dy).loads.length c3, slv g52 ((scnF pl dy).stands.length + 1) c53, slv g10 (scnF pl dy).spells.length c11, iv (scnF pl dy).geese, slv g14 (crtF pl dy).length c15]] ((stoodF (withF (scnF pl dy) ((geeseF (scnF pl dy) h).1) 0 0) (crtF pl dy)).2) (by kernel_rfl) (sound_c _ (withF (scnF pl dy) ((geeseF (scnF pl dy) h).1) 0 0) (g2.map fun b => ⟨b, 0, none⟩) (scnF pl dy).loads.length c3 (g52.map fun b => ⟨b, 0, none⟩) ((scnF pl dy).stands.length + 1) c53 (g10.map fun b => ⟨b, 0, none⟩) (scnF pl dy).spells.length c11 (crtF pl dy) (g14.map fun b => ⟨b, 0, none⟩) (crtF pl dy).length c15 ⟨⟨(hI.rowCells 8 rfl r5), rfl, (hI.rowCells 0 rfl r55), (r55.n_eq eLd_len (by decide)), (hI.rowCells 10 rfl r13), rfl, (by omega), (by omega), (by omega)⟩, (hI.rowCells 11 rfl r17), rfl, r17.cap, (by omega), (by omega), (by omega), (by omega)⟩ (withF_ok (scn_ok (hourI_ok h2).1 dy) bd00)) ?_ ?_)
         ·intro h14 w hI
          refine pu (.bool true) (by kernel_rfl) (pu (.bool true) (by kernel_rfl) (seq_nil (wp_seq (rgn (by kernel_rfl) (seq_c (s_loadK hI 2 7 [iv (scnF pl dy).lo, iv (scnF pl dy).hi, slv g2 (scnF pl dy).loads.length c3, slv g48 (((scnF pl dy).stands.length + 1) + 1) c49, slv g10 (scnF pl dy).spells.length c11, iv (scnF pl dy).geese, slv g14 (crtF pl dy).length c15] Tryz.isAgg116 Tryz.sizeOf116 rfl rfl rfl rfl ?_))))))
          refine seq_c (s_callv hI 87 [.agg #[iv (scnF pl dy).lo, iv (scnF pl dy).hi, slv g2 (scnF pl dy).loads.length c3, slv g48 (((scnF pl dy).stands.length + 1) + 1) c49, slv g10 (scnF pl dy).spells.length c11, iv (scnF pl dy).geese, slv g14 (crtF pl dy).length c15]] (.bool ((stoodF (withF (withF (scnF pl dy) h 0 0) ((geeseF (scnF pl dy) h).1) 1 10000) (crtF pl dy)).2)) (by kernel_rfl) (sound_c _ (withF (withF (scnF pl dy) h 0 0) ((geeseF (scnF pl dy) h).1) 1 10000) (g2.map fun b => ⟨b, 0, none⟩) (scnF pl dy).loads.length c3 (g48.map fun b => ⟨b, 0, none⟩) (((scnF pl dy).stands.length + 1) + 1) c49 (g10.map fun b => ⟨b, 0, none⟩) (scnF pl dy).spells.length c11 (crtF pl dy) (g14.map fun b => ⟨b, 0, none⟩) (crtF pl dy).length c15 ⟨⟨(hI.rowCells 8 rfl r5), rfl, (hI.rowCells 1 rfl r51), (r51.n_eq eLd_len (by decide)), (hI.rowCells 10 rfl r13), rfl, (by omega), (by omega), (by omega)⟩, (hI.rowCells 11 rfl r17), rfl, r17.cap, (by omega), (by omega), (by omega), (by omega)⟩ (withF_ok (withF_ok (scn_ok (hourI_ok h2).1 dy) bd00) bd1)) ?_)
          intro w hI
          refine pu (.bool true) (by kernel_rfl) (pu (.bool false) (by kernel_rfl) (seq_c (s_callv hI 112 [.bool ((stoodF (withF (withF (scnF pl dy) h 0 0) ((geeseF (scnF pl dy) h).1) 1 10000) (crtF pl dy)).2), .bool false] (iv (answerI ((stoodF (withF (withF (scnF pl dy) h 0 0) ((geeseF (scnF pl dy) h).1) 1 10000) (crtF pl dy)).2) false)) (by kernel_rfl) (answer_c ((stoodF (withF (withF (scnF pl dy) h 0 0) ((geeseF (scnF pl dy) h).1) 1 10000) (crtF pl dy)).2) false _) ?_)))
          intro w hI
          refine pu (iv (answerI ((stoodF (withF (withF (scnF pl dy) h 0 0) ((geeseF (scnF pl dy) h).1) 1 10000) (crtF pl dy)).2) false)) (by kernel_rfl) (pu (iv 0) (by kernel_rfl) (seq_nil (wp_ret ?_)))
          exact ⟨.tuple #[iv (answerI ((stoodF (withF (withF (scnF pl dy) h 0 0) ((geeseF (scnF pl dy) h).1) 1 10000) (crtF pl dy)).2) false), iv 0], Ret.r2 rfl rfl rfl, ⟨by simp [openC, h2, h3, h5, h11, h13, h14], hI.below⟩⟩
         ·intro h15 w hI
          refine pu (.bool false) (by kernel_rfl) (pu (.bool false) (by kernel_rfl) (seq_nil (wp_seq (rgn (by kernel_rfl) (seq_c (s_loadK hI 2 7 [iv (scnF pl dy).lo, iv (scnF pl dy).hi, slv g2 (scnF pl dy).loads.length c3, slv g48 (((scnF pl dy).stands.length + 1) + 1) c49, slv g10 (scnF pl dy).spells.length c11, iv (scnF pl dy).geese, slv g14 (crtF pl dy).length c15] Tryz.isAgg116 Tryz.sizeOf116 rfl rfl rfl rfl ?_))))))
          refine seq_c (s_callv hI 87 [.agg #[iv (scnF pl dy).lo, iv (scnF pl dy).hi, slv g2 (scnF pl dy).loads.length c3, slv g48 (((scnF pl dy).stands.length + 1) + 1) c49, slv g10 (scnF pl dy).spells.length c11, iv (scnF pl dy).geese, slv g14 (crtF pl dy).length c15]] (.bool ((stoodF (withF (withF (scnF pl dy) h 0 0) ((geeseF (scnF pl dy) h).1) 1 10000) (crtF pl dy)).2)) (by kernel_rfl) (sound_c _ (withF (withF (scnF pl dy) h 0 0) ((geeseF (scnF pl dy) h).1) 1 10000) (g2.map fun b => ⟨b, 0, none⟩) (scnF pl dy).loads.length c3 (g48.map fun b => ⟨b, 0, none⟩) (((scnF pl dy).stands.length + 1) + 1) c49 (g10.map fun b => ⟨b, 0, none⟩) (scnF pl dy).spells.length c11 (crtF pl dy) (g14.map fun b => ⟨b, 0, none⟩) (crtF pl dy).length c15 ⟨⟨(hI.rowCells 8 rfl r5), rfl, (hI.rowCells 1 rfl r51), (r51.n_eq eLd_len (by decide)), (hI.rowCells 10 rfl r13), rfl, (by omega), (by omega), (by omega)⟩, (hI.rowCells 11 rfl r17), rfl, r17.cap, (by omega), (by omega), (by omega), (by omega)⟩ (withF_ok (withF_ok (scn_ok (hourI_ok h2).1 dy) bd00) bd1)) ?_)
          intro w hI
          refine pu (.bool false) (by kernel_rfl) (pu (.bool true) (by kernel_rfl) (seq_c (s_callv hI 112 [.bool ((stoodF (withF (withF (scnF pl dy) h 0 0) ((geeseF (scnF pl dy) h).1) 1 10000) (crtF pl dy)).2), .bool true] (iv (answerI ((stoodF (withF (withF (scnF pl dy) h 0 0) ((geeseF (scnF pl dy) h).1) 1 10000) (crtF pl dy)).2) true)) (by kernel_rfl) (answer_c ((stoodF (withF (withF (scnF pl dy) h 0 0) ((geeseF (scnF pl dy) h).1) 1 10000) (crtF pl dy)).2) true _) ?_)))
          intro w hI
          refine pu (iv (answerI ((stoodF (withF (withF (scnF pl dy) h 0 0) ((geeseF (scnF pl dy) h).1) 1 10000) (crtF pl dy)).2) true)) (by kernel_rfl) (pu (iv 0) (by kernel_rfl) (seq_nil (wp_ret ?_)))
          exact ⟨.tuple #[iv (answerI ((stoodF (withF (withF (scnF pl dy) h 0 0) ((geeseF (scnF pl dy) h).1) 1 10000) (crtF pl dy)).2) true), iv 0], Ret.r2 rfl rfl rfl, ⟨by simp [openC, h2, h3, h5, h11, h13, h15], hI.below⟩⟩
        ·
         refine seq_c (s_callv hI 119 [.agg #[iv (scnF pl dy).lo, iv (scnF pl dy).hi, slv g2 (scnF pl dy).loads.length c3, slv g6 (scnF pl dy).stands.length c7, slv g10 (scnF pl dy).spells.length c11, iv (scnF pl dy).geese, slv g14 (crtF pl dy).length c15], iv h] (.tuple #[iv ((geeseF (scnF pl dy) h).1), .bool false]) (by kernel_rfl) (Does.mono (geese_c _ (scnF pl dy) (g2.map fun b => ⟨b, 0, none⟩) (scnF pl dy).loads.length c3 (g6.map fun b => ⟨b, 0, none⟩) (scnF pl dy).stands.length c7 (g10.map fun b => ⟨b, 0, none⟩) (scnF pl dy).spells.length c11 (crtF pl dy) (g14.map fun b => ⟨b, 0, none⟩) (crtF pl dy).length c15 ⟨⟨(hI.rowCells 6 rfl r5), rfl, (hI.rowCells 7 rfl r9), rfl, (hI.rowCells 8 rfl r13), rfl, (by omega), (by omega), (by omega)⟩, (hI.rowCells 9 rfl r17), rfl, r17.cap, (by omega), (by omega), (by omega), (by omega)⟩ h (isHour_bd (hourI_ok h2).2.1) ⟨((plotB_iff pl).1 (hourI_ok h2).1).g0, ((plotB_iff pl).1 (hourI_ok h2).1).g1⟩) (fun v w' h => ⟨h.1.trans (by first | (rw [h13]; done) | (rw [h13]; rfl)), h.2⟩)) ?_)
         intro w hI
         refine pu (.tuple #[iv ((geeseF (scnF pl dy) h).1), .bool false]) (by kernel_rfl) (pu (iv ((geeseF (scnF pl dy) h).1)) (by kernel_rfl) (pu (.bool false) (by kernel_rfl) (pu (iv ((geeseF (scnF pl dy) h).1)) (by kernel_rfl) (pu (.bool false) (by kernel_rfl) (seq_nil (wp_seq (rgn (by kernel_rfl) (pu (.bool false) (by kernel_rfl) (seq_nil ?_)))))))))
         refine wp_condF rfl (wp_skip (wp_seq (rgn (by kernel_rfl) (seq_c (s_loadK hI 0 7 [iv (scnF pl dy).lo, iv (scnF pl dy).hi, slv g2 (scnF pl dy).loads.length c3, slv g21 ((scnF pl dy).stands.length + 1) c22, slv g10 (scnF pl dy).spells.length c11, iv (scnF pl dy).geese, slv g14 (crtF pl dy).length c15] Tryz.isAgg116 Tryz.sizeOf116 rfl rfl rfl rfl ?_)))))
         refine seq_c (s_callv hI 87 [.agg #[iv (scnF pl dy).lo, iv (scnF pl dy).hi, slv g2 (scnF pl dy).loads.length c3, slv g21 ((scnF pl dy).stands.length + 1) c22, slv g10 (scnF pl dy).spells.length c11, iv (scnF pl dy).geese, slv g14 (crtF pl dy).length c15]] (.bool ((stoodF (withF (scnF pl dy) h 0 0) (crtF pl dy)).2)) (by kernel_rfl) (sound_c _ (withF (scnF pl dy) h 0 0) (g2.map fun b => ⟨b, 0, none⟩) (scnF pl dy).loads.length c3 (g21.map fun b => ⟨b, 0, none⟩) ((scnF pl dy).stands.length + 1) c22 (g10.map fun b => ⟨b, 0, none⟩) (scnF pl dy).spells.length c11 (crtF pl dy) (g14.map fun b => ⟨b, 0, none⟩) (crtF pl dy).length c15 ⟨⟨(hI.rowCells 6 rfl r5), rfl, (hI.rowCells 2 rfl r24), (r24.n_eq eLd_len (by decide)), (hI.rowCells 8 rfl r13), rfl, (by omega), (by omega), (by omega)⟩, (hI.rowCells 9 rfl r17), rfl, r17.cap, (by omega), (by omega), (by omega), (by omega)⟩ (withF_ok (scn_ok (hourI_ok h2).1 dy) bd00)) ?_)
         intro w hI
         refine pu (.bool false) (by kernel_rfl) (pu (.bool true) (by kernel_rfl) (seq_c (s_callv hI 112 [.bool ((stoodF (withF (scnF pl dy) h 0 0) (crtF pl dy)).2), .bool true] (iv (answerI ((stoodF (withF (scnF pl dy) h 0 0) (crtF pl dy)).2) true)) (by kernel_rfl) (answer_c ((stoodF (withF (scnF pl dy) h 0 0) (crtF pl dy)).2) true _) ?_)))
         intro w hI
         refine pu (iv (answerI ((stoodF (withF (scnF pl dy) h 0 0) (crtF pl dy)).2) true)) (by kernel_rfl) (pu (iv 0) (by kernel_rfl) (seq_nil (wp_ret ?_)))
         exact ⟨.tuple #[iv (answerI ((stoodF (withF (scnF pl dy) h 0 0) (crtF pl dy)).2) true), iv 0], Ret.r2 rfl rfl rfl, ⟨by simp [openC, h2, h3, h5, h11, h13], hI.below⟩⟩
     ·intro w hI
      refine ol_c rfl (s_allocI hI [iv 0, iv 0, .slice none 0 0, .slice none 0 0, .slice none 0 0, iv 0, .slice none 0 0] Tryz.zeroValue116 rfl ?_)
      intro b56 w hI
      refine ⟨_, hI, subk (fun _ h => h.pickL [2, 3, 4, 5, 6, 7, 8, 9] (by decide) rfl) ?_⟩
      intro hsub
      refine any_heavy [7] (by kernel_rfl) rfl (each1 ?_)
      intro w hI
      refine ol_c rfl (s_callNewF hI 118 [.agg #[iv (scnF pl dy).lo, iv (scnF pl dy).hi, slv g2 (scnF pl dy).loads.length c3, slv g6 (scnF pl dy).stands.length c7, slv g10 (scnF pl dy).spells.length c11, iv (scnF pl dy).geese, slv g14 (crtF pl dy).length c15], iv h, .agg #[iv 1, iv 10000]] (fun v1 => .agg #[iv (scnF pl dy).lo, iv (scnF pl dy).hi, slv g2 (scnF pl dy).loads.length c3, v1, slv g10 (scnF pl dy).spells.length c11, iv (scnF pl dy).geese, slv g14 (crtF pl dy).length c15]) (by kernel_rfl) (with_c _ (scnF pl dy) (g2.map fun b => ⟨b, 0, none⟩) (scnF pl dy).loads.length c3 (g6.map fun b => ⟨b, 0, none⟩) (scnF pl dy).stands.length c7 (g10.map fun b => ⟨b, 0, none⟩) (scnF pl dy).spells.length c11 (crtF pl dy) (g14.map fun b => ⟨b, 0, none⟩) (crtF pl dy).length c15 ⟨⟨(hI.rowCells 5 rfl r5), rfl, (hI.rowCells 6 rfl r9), rfl, (hI.rowCells 7 rfl r13), rfl, (by omega), (by omega), (by omega)⟩, (hI.rowCells 8 rfl r17), rfl, r17.cap, (by omega), (by omega), (by omega), (by omega)⟩ h 1 10000) ?_)
      intro g57 c58 cl59 w hI r60
      refine ⟨_, hI, subk (fun _ h => h.pickL [3, 4, 5, 6, 7, 8, 9, 10] (by decide) rfl) ?_⟩
      intro hsub
      refine any_heavy [8] (by kernel_rfl) rfl (each1 ?_)
      intro w hI
      rcases Bool.eq_false_or_eq_true ((stoodF (withF (scnF pl dy) h 1 10000) (crtF pl dy)).2) with h16 | h16
      ·
       refine ol_c rfl (s_callv hI 87 [.agg #[iv (scnF pl dy).lo, iv (scnF pl dy).hi, slv g2 (scnF pl dy).loads.length c3, slv g57 ((scnF pl dy).stands.length + 1) c58, slv g10 (scnF pl dy).spells.length c11, iv (scnF pl dy).geese, slv g14 (crtF pl dy).length c15]] (.bool true) (by kernel_rfl) (Does.mono (sound_c _ (withF (scnF pl dy) h 1 10000) (g2.map fun b => ⟨b, 0, none⟩) (scnF pl dy).loads.length c3 (g57.map fun b => ⟨b, 0, none⟩) ((scnF pl dy).stands.length + 1) c58 (g10.map fun b => ⟨b, 0, none⟩) (scnF pl dy).spells.length c11 (crtF pl dy) (g14.map fun b => ⟨b, 0, none⟩) (crtF pl dy).length c15 ⟨⟨(hI.rowCells 6 rfl r5), rfl, (hI.rowCells 0 rfl r60), (r60.n_eq eLd_len (by decide)), (hI.rowCells 8 rfl r13), rfl, (by omega), (by omega), (by omega)⟩, (hI.rowCells 9 rfl r17), rfl, r17.cap, (by omega), (by omega), (by omega), (by omega)⟩ (withF_ok (scn_ok (hourI_ok h2).1 dy) bd1)) (fun v' w' h => ⟨h.1.trans (congrArg Value.bool h16), h.2⟩)) ?_)
       intro w hI
       refine ⟨_, hI, subk (fun _ h => h.pickL [3, 4, 5, 6, 7, 8, 9, 10] (by decide) rfl) ?_⟩
       intro hsub
       refine any_heavy [10] (by kernel_rfl) rfl (each1 ?_)
       intro w hI
       refine ol_c rfl (s_store hI 1 7 [iv (scnF pl dy).lo, iv (scnF pl dy).hi, slv g2 (scnF pl dy).loads.length c3, slv g21 ((scnF pl dy).stands.length + 1) c22, slv g10 (scnF pl dy).spells.length c11, iv (scnF pl dy).geese, slv g14 (crtF pl dy).length c15] Tryz.sizeOf116 rfl rfl rfl rfl rfl (Nat.le_of_ble_eq_true rfl) ?_)
       intro w hI
       refine ⟨_, hI, subk (fun _ h => h.pickL [3, 4, 5, 6, 7, 8, 9, 10] (by decide) rfl) ?_⟩
       intro hsub
       refine alp 11 (.bool true) hsub rfl (by kernel_rfl) (fun _ => (by kernel_rfl)) ?_
       refine any_end (by kernel_rfl) (fun w hI => ?_)
       refine wp_seq (wp_seq (rgn (by kernel_rfl) (seq_c (s_loadK hI 5 7 [iv (scnF pl dy).lo, iv (scnF pl dy).hi, slv g2 (scnF pl dy).loads.length c3, slv g6 (scnF pl dy).stands.length c7, slv g10 (scnF pl dy).spells.length c11, iv (scnF pl dy).geese, slv g14 (crtF pl dy).length c15] Tryz.isAgg116 Tryz.sizeOf116 rfl rfl rfl rfl ?_))))
       refine pu (iv h) (by kernel_rfl) ?_
       rcases Bool.eq_false_or_eq_true ((geeseF (scnF pl dy) h).2) with h17 | h17
       ·
        refine seq_c (s_callv hI 119 [.agg #[iv (scnF pl dy).lo, iv (scnF pl dy).hi, slv g2 (scnF pl dy).loads.length c3, slv g6 (scnF pl dy).stands.length c7, slv g10 (scnF pl dy).spells.length c11, iv (scnF pl dy).geese, slv g14 (crtF pl dy).length c15], iv h] (.tuple #[iv ((geeseF (scnF pl dy) h).1), .bool true]) (by kernel_rfl) (Does.mono (geese_c _ (scnF pl dy) (g2.map fun b => ⟨b, 0, none⟩) (scnF pl dy).loads.length c3 (g6.map fun b => ⟨b, 0, none⟩) (scnF pl dy).stands.length c7 (g10.map fun b => ⟨b, 0, none⟩) (scnF pl dy).spells.length c11 (crtF pl dy) (g14.map fun b => ⟨b, 0, none⟩) (crtF pl dy).length c15 ⟨⟨(hI.rowCells 6 rfl r5), rfl, (hI.rowCells 7 rfl r9), rfl, (hI.rowCells 8 rfl r13), rfl, (by omega), (by omega), (by omega)⟩, (hI.rowCells 9 rfl r17), rfl, r17.cap, (by omega), (by omega), (by omega), (by omega)⟩ h (isHour_bd (hourI_ok h2).2.1) ⟨((plotB_iff pl).1 (hourI_ok h2).1).g0, ((plotB_iff pl).1 (hourI_ok h2).1).g1⟩) (fun v w' h => ⟨h.1.trans (by first | (rw [h17]; done) | (rw [h17]; rfl)), h.2⟩)) ?_)
        intro w hI
        refine pu (.tuple #[iv ((geeseF (scnF pl dy) h).1), .bool true]) (by kernel_rfl) (pu (iv ((geeseF (scnF pl dy) h).1)) (by kernel_rfl) (pu (.bool true) (by kernel_rfl) (pu (iv ((geeseF (scnF pl dy) h).1)) (by kernel_rfl) (pu (.bool true) (by kernel_rfl) (seq_nil (wp_seq (rgn (by kernel_rfl) (pu (.bool true) (by kernel_rfl) (seq_nil ?_)))))))))
        refine wp_condT rfl (wp_seq (rgn (by kernel_rfl) (seq_c (s_loadK hI 1 7 [iv (scnF pl dy).lo, iv (scnF pl dy).hi, slv g2 (scnF pl dy).loads.length c3, slv g21 ((scnF pl dy).stands.length + 1) c22, slv g10 (scnF pl dy).spells.length c11, iv (scnF pl dy).geese, slv g14 (crtF pl dy).length c15] Tryz.isAgg116 Tryz.sizeOf116 rfl rfl rfl rfl ?_))))
        refine pu (iv ((geeseF (scnF pl dy) h).1)) (by kernel_rfl) (seq_c (s_loadK hI 3 2 [iv 1, iv 10000] Tryz.isAgg23 Tryz.sizeOf23 rfl rfl rfl rfl ?_))
        refine seq_c (s_callNewF hI 118 [.agg #[iv (scnF pl dy).lo, iv (scnF pl dy).hi, slv g2 (scnF pl dy).loads.length c3, slv g21 ((scnF pl dy).stands.length + 1) c22, slv g10 (scnF pl dy).spells.length c11, iv (scnF pl dy).geese, slv g14 (crtF pl dy).length c15], iv ((geeseF (scnF pl dy) h).1), .agg #[iv 1, iv 10000]] (fun v1 => .agg #[iv (scnF pl dy).lo, iv (scnF pl dy).hi, slv g2 (scnF pl dy).loads.length c3, v1, slv g10 (scnF pl dy).spells.length c11, iv (scnF pl dy).geese, slv g14 (crtF pl dy).length c15]) (by kernel_rfl) (with_c _ (withF (scnF pl dy) h 0 0) (g2.map fun b => ⟨b, 0, none⟩) (scnF pl dy).loads.length c3 (g21.map fun b => ⟨b, 0, none⟩) ((scnF pl dy).stands.length + 1) c22 (g10.map fun b => ⟨b, 0, none⟩) (scnF pl dy).spells.length c11 (crtF pl dy) (g14.map fun b => ⟨b, 0, none⟩) (crtF pl dy).length c15 ⟨⟨(hI.rowCells 6 rfl r5), rfl, (hI.rowCells 2 rfl r24), (r24.n_eq eLd_len (by decide)), (hI.rowCells 8 rfl r13), rfl, (by omega), (by omega), (by omega)⟩, (hI.rowCells 9 rfl r17), rfl, r17.cap, (by omega), (by omega), (by omega), (by omega)⟩ ((geeseF (scnF pl dy) h).1) 1 10000) ?_)
        intro g61 c62 cl63 w hI r64
        refine seq_c (s_store hI 2 7 [iv (scnF pl dy).lo, iv (scnF pl dy).hi, slv g2 (scnF pl dy).loads.length c3, slv g61 (((scnF pl dy).stands.length + 1) + 1) c62, slv g10 (scnF pl dy).spells.length c11, iv (scnF pl dy).geese, slv g14 (crtF pl dy).length c15] Tryz.sizeOf116 rfl rfl rfl rfl rfl (Nat.le_of_ble_eq_true rfl) ?_)
        intro w hI
        refine seq_nil (rgn (by kernel_rfl) (pu (.bool true) (by kernel_rfl) (pu (.bool true) (by kernel_rfl) (of_ (by kernel_rfl) (of_ (by kernel_rfl) (of_ (by kernel_rfl) (of_ (by kernel_rfl) (of_ (by kernel_rfl) (pu (.bool true) (by kernel_rfl) ?_)))))))))
        refine pu (.bool true) (by kernel_rfl) (seq_nil (wp_seq (rgn (by kernel_rfl) (seq_c (s_loadK hI 2 7 [iv (scnF pl dy).lo, iv (scnF pl dy).hi, slv g2 (scnF pl dy).loads.length c3, slv g61 (((scnF pl dy).stands.length + 1) + 1) c62, slv g10 (scnF pl dy).spells.length c11, iv (scnF pl dy).geese, slv g14 (crtF pl dy).length c15] Tryz.isAgg116 Tryz.sizeOf116 rfl rfl rfl rfl ?_)))))
        refine seq_c (s_callv hI 87 [.agg #[iv (scnF pl dy).lo, iv (scnF pl dy).hi, slv g2 (scnF pl dy).loads.length c3, slv g61 (((scnF pl dy).stands.length + 1) + 1) c62, slv g10 (scnF pl dy).spells.length c11, iv (scnF pl dy).geese, slv g14 (crtF pl dy).length c15]] (.bool ((stoodF (withF (withF (scnF pl dy) h 0 0) ((geeseF (scnF pl dy) h).1) 1 10000) (crtF pl dy)).2)) (by kernel_rfl) (sound_c _ (withF (withF (scnF pl dy) h 0 0) ((geeseF (scnF pl dy) h).1) 1 10000) (g2.map fun b => ⟨b, 0, none⟩) (scnF pl dy).loads.length c3 (g61.map fun b => ⟨b, 0, none⟩) (((scnF pl dy).stands.length + 1) + 1) c62 (g10.map fun b => ⟨b, 0, none⟩) (scnF pl dy).spells.length c11 (crtF pl dy) (g14.map fun b => ⟨b, 0, none⟩) (crtF pl dy).length c15 ⟨⟨(hI.rowCells 7 rfl r5), rfl, (hI.rowCells 0 rfl r64), (r64.n_eq eLd_len (by decide)), (hI.rowCells 9 rfl r13), rfl, (by omega), (by omega), (by omega)⟩, (hI.rowCells 10 rfl r17), rfl, r17.cap, (by omega), (by omega), (by omega), (by omega)⟩ (withF_ok (withF_ok (scn_ok (hourI_ok h2).1 dy) bd00) bd1)) ?_)
        intro w hI
        refine pu (.bool true) (by kernel_rfl) (pu (.bool false) (by kernel_rfl) (seq_c (s_callv hI 112 [.bool ((stoodF (withF (withF (scnF pl dy) h 0 0) ((geeseF (scnF pl dy) h).1) 1 10000) (crtF pl dy)).2), .bool false] (iv (answerI ((stoodF (withF (withF (scnF pl dy) h 0 0) ((geeseF (scnF pl dy) h).1) 1 10000) (crtF pl dy)).2) false)) (by kernel_rfl) (answer_c ((stoodF (withF (withF (scnF pl dy) h 0 0) ((geeseF (scnF pl dy) h).1) 1 10000) (crtF pl dy)).2) false _) ?_)))
        intro w hI
        refine pu (iv (answerI ((stoodF (withF (withF (scnF pl dy) h 0 0) ((geeseF (scnF pl dy) h).1) 1 10000) (crtF pl dy)).2) false)) (by kernel_rfl) (pu (iv 0) (by kernel_rfl) (seq_nil (wp_ret ?_)))
        exact ⟨.tuple #[iv (answerI ((stoodF (withF (withF (scnF pl dy) h 0 0) ((geeseF (scnF pl dy) h).1) 1 10000) (crtF pl dy)).2) false), iv 0], Ret.r2 rfl rfl rfl, ⟨by simp [openC, h2, h3, h5, h16, h17], hI.below⟩⟩
       ·
        refine seq_c (s_callv hI 119 [.agg #[iv (scnF pl dy).lo, iv (scnF pl dy).hi, slv g2 (scnF pl dy).loads.length c3, slv g6 (scnF pl dy).stands.length c7, slv g10 (scnF pl dy).spells.length c11, iv (scnF pl dy).geese, slv g14 (crtF pl dy).length c15], iv h] (.tuple #[iv ((geeseF (scnF pl dy) h).1), .bool false]) (by kernel_rfl) (Does.mono (geese_c _ (scnF pl dy) (g2.map fun b => ⟨b, 0, none⟩) (scnF pl dy).loads.length c3 (g6.map fun b => ⟨b, 0, none⟩) (scnF pl dy).stands.length c7 (g10.map fun b => ⟨b, 0, none⟩) (scnF pl dy).spells.length c11 (crtF pl dy) (g14.map fun b => ⟨b, 0, none⟩) (crtF pl dy).length c15 ⟨⟨(hI.rowCells 6 rfl r5), rfl, (hI.rowCells 7 rfl r9), rfl, (hI.rowCells 8 rfl r13), rfl, (by omega), (by omega), (by omega)⟩, (hI.rowCells 9 rfl r17), rfl, r17.cap, (by omega), (by omega), (by omega), (by omega)⟩ h (isHour_bd (hourI_ok h2).2.1) ⟨((plotB_iff pl).1 (hourI_ok h2).1).g0, ((plotB_iff pl).1 (hourI_ok h2).1).g1⟩) (fun v w' h => ⟨h.1.trans (by first | (rw [h17]; done) | (rw [h17]; rfl)), h.2⟩)) ?_)
        intro w hI
        refine pu (.tuple #[iv ((geeseF (scnF pl dy) h).1), .bool false]) (by kernel_rfl) (pu (iv ((geeseF (scnF pl dy) h).1)) (by kernel_rfl) (pu (.bool false) (by kernel_rfl) (pu (iv ((geeseF (scnF pl dy) h).1)) (by kernel_rfl) (pu (.bool false) (by kernel_rfl) (seq_nil (wp_seq (rgn (by kernel_rfl) (pu (.bool false) (by kernel_rfl) (seq_nil ?_)))))))))
        refine wp_condF rfl (wp_skip (wp_seq (rgn (by kernel_rfl) (seq_c (s_loadK hI 1 7 [iv (scnF pl dy).lo, iv (scnF pl dy).hi, slv g2 (scnF pl dy).loads.length c3, slv g21 ((scnF pl dy).stands.length + 1) c22, slv g10 (scnF pl dy).spells.length c11, iv (scnF pl dy).geese, slv g14 (crtF pl dy).length c15] Tryz.isAgg116 Tryz.sizeOf116 rfl rfl rfl rfl ?_)))))
        refine seq_c (s_callv hI 87 [.agg #[iv (scnF pl dy).lo, iv (scnF pl dy).hi, slv g2 (scnF pl dy).loads.length c3, slv g21 ((scnF pl dy).stands.length + 1) c22, slv g10 (scnF pl dy).spells.length c11, iv (scnF pl dy).geese, slv g14 (crtF pl dy).length c15]] (.bool ((stoodF (withF (scnF pl dy) h 0 0) (crtF pl dy)).2)) (by kernel_rfl) (sound_c _ (withF (scnF pl dy) h 0 0) (g2.map fun b => ⟨b, 0, none⟩) (scnF pl dy).loads.length c3 (g21.map fun b => ⟨b, 0, none⟩) ((scnF pl dy).stands.length + 1) c22 (g10.map fun b => ⟨b, 0, none⟩) (scnF pl dy).spells.length c11 (crtF pl dy) (g14.map fun b => ⟨b, 0, none⟩) (crtF pl dy).length c15 ⟨⟨(hI.rowCells 6 rfl r5), rfl, (hI.rowCells 2 rfl r24), (r24.n_eq eLd_len (by decide)), (hI.rowCells 8 rfl r13), rfl, (by omega), (by omega), (by omega)⟩, (hI.rowCells 9 rfl r17), rfl, r17.cap, (by omega), (by omega), (by omega), (by omega)⟩ (withF_ok (scn_ok (hourI_ok h2).1 dy) bd00)) ?_)
        intro w hI
        refine pu (.bool true) (by kernel_rfl) (pu (.bool false) (by kernel_rfl) (seq_c (s_callv hI 112 [.bool ((stoodF (withF (scnF pl dy) h 0 0) (crtF pl dy)).2), .bool false] (iv (answerI ((stoodF (withF (scnF pl dy) h 0 0) (crtF pl dy)).2) false)) (by kernel_rfl) (answer_c ((stoodF (withF (scnF pl dy) h 0 0) (crtF pl dy)).2) false _) ?_)))
        intro w hI
        refine pu (iv (answerI ((stoodF (withF (scnF pl dy) h 0 0) (crtF pl dy)).2) false)) (by kernel_rfl) (pu (iv 0) (by kernel_rfl) (seq_nil (wp_ret ?_)))
        exact ⟨.tuple #[iv (answerI ((stoodF (withF (scnF pl dy) h 0 0) (crtF pl dy)).2) false), iv 0], Ret.r2 rfl rfl rfl, ⟨by simp [openC, h2, h3, h5, h16, h17], hI.below⟩⟩
      ·
       refine ol_c rfl (s_callv hI 87 [.agg #[iv (scnF pl dy).lo, iv (scnF pl dy).hi, slv g2 (scnF pl dy).loads.length c3, slv g57 ((scnF pl dy).stands.length + 1) c58, slv g10 (scnF pl dy).spells.length c11, iv (scnF pl dy).geese, slv g14 (crtF pl dy).length c15]] (.bool false) (by kernel_rfl) (Does.mono (sound_c _ (withF (scnF pl dy) h 1 10000) (g2.map fun b => ⟨b, 0, none⟩) (scnF pl dy).loads.length c3 (g57.map fun b => ⟨b, 0, none⟩) ((scnF pl dy).stands.length + 1) c58 (g10.map fun b => ⟨b, 0, none⟩) (scnF pl dy).spells.length c11 (crtF pl dy) (g14.map fun b => ⟨b, 0, none⟩) (crtF pl dy).length c15 ⟨⟨(hI.rowCells 6 rfl r5), rfl, (hI.rowCells 0 rfl r60), (r60.n_eq eLd_len (by decide)), (hI.rowCells 8 rfl r13), rfl, (by omega), (by omega), (by omega)⟩, (hI.rowCells 9 rfl r17), rfl, r17.cap, (by omega), (by omega), (by omega), (by omega)⟩ (withF_ok (scn_ok (hourI_ok h2).1 dy) bd1)) (fun v' w' h => ⟨h.1.trans (congrArg Value.bool h16), h.2⟩)) ?_)
       intro w hI
       refine ⟨_, hI, subk (fun _ h => h.pickL [3, 4, 5, 6, 7, 8, 9, 10] (by decide) rfl) ?_⟩
       intro hsub
       refine any_heavy [10] (by kernel_rfl) rfl (each1 ?_)
       intro w hI
       refine ol_c rfl (s_store hI 1 7 [iv (scnF pl dy).lo, iv (scnF pl dy).hi, slv g2 (scnF pl dy).loads.length c3, slv g21 ((scnF pl dy).stands.length + 1) c22, slv g10 (scnF pl dy).spells.length c11, iv (scnF pl dy).geese, slv g14 (crtF pl dy).length c15] Tryz.sizeOf116 rfl rfl rfl rfl rfl (Nat.le_of_ble_eq_true rfl) ?_)
       intro w hI
       refine ⟨_, hI, subk (fun _ h => h.pickL [3, 4, 5, 6, 7, 8, 9, 10] (by decide) rfl) ?_⟩
       intro hsub
       refine alp 11 (.bool false) hsub rfl (by kernel_rfl) (fun _ => (by kernel_rfl)) ?_
       refine any_end (by kernel_rfl) (fun w hI => ?_)
       refine wp_seq (wp_seq (rgn (by kernel_rfl) (seq_c (s_loadK hI 5 7 [iv (scnF pl dy).lo, iv (scnF pl dy).hi, slv g2 (scnF pl dy).loads.length c3, slv g6 (scnF pl dy).stands.length c7, slv g10 (scnF pl dy).spells.length c11, iv (scnF pl dy).geese, slv g14 (crtF pl dy).length c15] Tryz.isAgg116 Tryz.sizeOf116 rfl rfl rfl rfl ?_))))
       refine pu (iv h) (by kernel_rfl) ?_
       rcases Bool.eq_false_or_eq_true ((geeseF (scnF pl dy) h).2) with h18 | h18
       ·
        refine seq_c (s_callv hI 119 [.agg #[iv (scnF pl dy).lo, iv (scnF pl dy).hi, slv g2 (scnF pl dy).loads.length c3, slv g6 (scnF pl dy).stands.length c7, slv g10 (scnF pl dy).spells.length c11, iv (scnF pl dy).geese, slv g14 (crtF pl dy).length c15], iv h] (.tuple #[iv ((geeseF (scnF pl dy) h).1), .bool true]) (by kernel_rfl) (Does.mono (geese_c _ (scnF pl dy) (g2.map fun b => ⟨b, 0, none⟩) (scnF pl dy).loads.length c3 (g6.map fun b => ⟨b, 0, none⟩) (scnF pl dy).stands.length c7 (g10.map fun b => ⟨b, 0, none⟩) (scnF pl dy).spells.length c11 (crtF pl dy) (g14.map fun b => ⟨b, 0, none⟩) (crtF pl dy).length c15 ⟨⟨(hI.rowCells 6 rfl r5), rfl, (hI.rowCells 7 rfl r9), rfl, (hI.rowCells 8 rfl r13), rfl, (by omega), (by omega), (by omega)⟩, (hI.rowCells 9 rfl r17), rfl, r17.cap, (by omega), (by omega), (by omega), (by omega)⟩ h (isHour_bd (hourI_ok h2).2.1) ⟨((plotB_iff pl).1 (hourI_ok h2).1).g0, ((plotB_iff pl).1 (hourI_ok h2).1).g1⟩) (fun v w' h => ⟨h.1.trans (by first | (rw [h18]; done) | (rw [h18]; rfl)), h.2⟩)) ?_)
        intro w hI
        refine pu (.tuple #[iv ((geeseF (scnF pl dy) h).1), .bool true]) (by kernel_rfl) (pu (iv ((geeseF (scnF pl dy) h).1)) (by kernel_rfl) (pu (.bool true) (by kernel_rfl) (pu (iv ((geeseF (scnF pl dy) h).1)) (by kernel_rfl) (pu (.bool true) (by kernel_rfl) (seq_nil (wp_seq (rgn (by kernel_rfl) (pu (.bool true) (by kernel_rfl) (seq_nil ?_)))))))))
        refine wp_condT rfl (wp_seq (rgn (by kernel_rfl) (seq_c (s_loadK hI 1 7 [iv (scnF pl dy).lo, iv (scnF pl dy).hi, slv g2 (scnF pl dy).loads.length c3, slv g21 ((scnF pl dy).stands.length + 1) c22, slv g10 (scnF pl dy).spells.length c11, iv (scnF pl dy).geese, slv g14 (crtF pl dy).length c15] Tryz.isAgg116 Tryz.sizeOf116 rfl rfl rfl rfl ?_))))
        refine pu (iv ((geeseF (scnF pl dy) h).1)) (by kernel_rfl) (seq_c (s_loadK hI 3 2 [iv 1, iv 10000] Tryz.isAgg23 Tryz.sizeOf23 rfl rfl rfl rfl ?_))
        refine seq_c (s_callNewF hI 118 [.agg #[iv (scnF pl dy).lo, iv (scnF pl dy).hi, slv g2 (scnF pl dy).loads.length c3, slv g21 ((scnF pl dy).stands.length + 1) c22, slv g10 (scnF pl dy).spells.length c11, iv (scnF pl dy).geese, slv g14 (crtF pl dy).length c15], iv ((geeseF (scnF pl dy) h).1), .agg #[iv 1, iv 10000]] (fun v1 => .agg #[iv (scnF pl dy).lo, iv (scnF pl dy).hi, slv g2 (scnF pl dy).loads.length c3, v1, slv g10 (scnF pl dy).spells.length c11, iv (scnF pl dy).geese, slv g14 (crtF pl dy).length c15]) (by kernel_rfl) (with_c _ (withF (scnF pl dy) h 0 0) (g2.map fun b => ⟨b, 0, none⟩) (scnF pl dy).loads.length c3 (g21.map fun b => ⟨b, 0, none⟩) ((scnF pl dy).stands.length + 1) c22 (g10.map fun b => ⟨b, 0, none⟩) (scnF pl dy).spells.length c11 (crtF pl dy) (g14.map fun b => ⟨b, 0, none⟩) (crtF pl dy).length c15 ⟨⟨(hI.rowCells 6 rfl r5), rfl, (hI.rowCells 2 rfl r24), (r24.n_eq eLd_len (by decide)), (hI.rowCells 8 rfl r13), rfl, (by omega), (by omega), (by omega)⟩, (hI.rowCells 9 rfl r17), rfl, r17.cap, (by omega), (by omega), (by omega), (by omega)⟩ ((geeseF (scnF pl dy) h).1) 1 10000) ?_)
        intro g65 c66 cl67 w hI r68
        refine seq_c (s_store hI 2 7 [iv (scnF pl dy).lo, iv (scnF pl dy).hi, slv g2 (scnF pl dy).loads.length c3, slv g65 (((scnF pl dy).stands.length + 1) + 1) c66, slv g10 (scnF pl dy).spells.length c11, iv (scnF pl dy).geese, slv g14 (crtF pl dy).length c15] Tryz.sizeOf116 rfl rfl rfl rfl rfl (Nat.le_of_ble_eq_true rfl) ?_)
        intro w hI
        refine seq_nil (rgn (by kernel_rfl) (pu (.bool false) (by kernel_rfl) (pu (.bool false) (by kernel_rfl) (seq_on (by kernel_rfl) (s_loadK hI 6 7 [iv (scnF pl dy).lo, iv (scnF pl dy).hi, slv g2 (scnF pl dy).loads.length c3, slv g6 (scnF pl dy).stands.length c7, slv g10 (scnF pl dy).spells.length c11, iv (scnF pl dy).geese, slv g14 (crtF pl dy).length c15] Tryz.isAgg116 Tryz.sizeOf116 rfl rfl rfl rfl ?_)))))
        refine puo (iv ((geeseF (scnF pl dy) h).1)) ⟨(by kernel_rfl), (by kernel_rfl)⟩ (seq_on (by kernel_rfl) (s_loadK hI 5 2 [iv 0, iv 0] Tryz.isAgg23 Tryz.sizeOf23 rfl rfl rfl rfl ?_))
        refine seq_on (by kernel_rfl) (s_callNewF hI 118 [.agg #[iv (scnF pl dy).lo, iv (scnF pl dy).hi, slv g2 (scnF pl dy).loads.length c3, slv g6 (scnF pl dy).stands.length c7, slv g10 (scnF pl dy).spells.length c11, iv (scnF pl dy).geese, slv g14 (crtF pl dy).length c15], iv ((geeseF (scnF pl dy) h).1), .agg #[iv 0, iv 0]] (fun v1 => .agg #[iv (scnF pl dy).lo, iv (scnF pl dy).hi, slv g2 (scnF pl dy).loads.length c3, v1, slv g10 (scnF pl dy).spells.length c11, iv (scnF pl dy).geese, slv g14 (crtF pl dy).length c15]) (by kernel_rfl) (with_c _ (scnF pl dy) (g2.map fun b => ⟨b, 0, none⟩) (scnF pl dy).loads.length c3 (g6.map fun b => ⟨b, 0, none⟩) (scnF pl dy).stands.length c7 (g10.map fun b => ⟨b, 0, none⟩) (scnF pl dy).spells.length c11 (crtF pl dy) (g14.map fun b => ⟨b, 0, none⟩) (crtF pl dy).length c15 ⟨⟨(hI.rowCells 7 rfl r5), rfl, (hI.rowCells 8 rfl r9), rfl, (hI.rowCells 9 rfl r13), rfl, (by omega), (by omega), (by omega)⟩, (hI.rowCells 10 rfl r17), rfl, r17.cap, (by omega), (by omega), (by omega), (by omega)⟩ ((geeseF (scnF pl dy) h).1) 0 0) ?_)
        intro g69 c70 cl71 w hI r72
        refine seq_on (by kernel_rfl) (s_callb hI 87 [.agg #[iv (scnF pl dy).lo, iv (scnF pl dy).hi, slv g2 (scnF pl dy).loads.length c3, slv g69 ((scnF pl dy).stands.length + 1) c70, slv g10 (scnF pl dy).spells.length c11, iv (scnF pl dy).geese, slv g14 (crtF pl dy).length c15]] ((stoodF (withF (scnF pl dy) ((geeseF (scnF pl dy) h).1) 0 0) (crtF pl dy)).2) (by kernel_rfl) (sound_c _ (withF (scnF pl dy) ((geeseF (scnF pl dy) h).1) 0 0) (g2.map fun b => ⟨b, 0, none⟩) (scnF pl dy).loads.length c3 (g69.map fun b => ⟨b, 0, none⟩) ((scnF pl dy).stands.length + 1) c70 (g10.map fun b => ⟨b, 0, none⟩) (scnF pl dy).spells.length c11 (crtF pl dy) (g14.map fun b => ⟨b, 0, none⟩) (crtF pl dy).length c15 ⟨⟨(hI.rowCells 8 rfl r5), rfl, (hI.rowCells 0 rfl r72), (r72.n_eq eLd_len (by decide)), (hI.rowCells 10 rfl r13), rfl, (by omega), (by omega), (by omega)⟩, (hI.rowCells 11 rfl r17), rfl, r17.cap, (by omega), (by omega), (by omega), (by omega)⟩ (withF_ok (scn_ok (hourI_ok h2).1 dy) bd00)) ?_ ?_)
        ·intro h19 w hI
         refine pu (.bool true) (by kernel_rfl) (pu (.bool true) (by kernel_rfl) (seq_nil (wp_seq (rgn (by kernel_rfl) (seq_c (s_loadK hI 3 7 [iv (scnF pl dy).lo, iv (scnF pl dy).hi, slv g2 (scnF pl dy).loads.length c3, slv g65 (((scnF pl dy).stands.length + 1) + 1) c66, slv g10 (scnF pl dy).spells.length c11, iv (scnF pl dy).geese, slv g14 (crtF pl dy).length c15] Tryz.isAgg116 Tryz.sizeOf116 rfl rfl rfl rfl ?_))))))
         refine seq_c (s_callv hI 87 [.agg #[iv (scnF pl dy).lo, iv (scnF pl dy).hi, slv g2 (scnF pl dy).loads.length c3, slv g65 (((scnF pl dy).stands.length + 1) + 1) c66, slv g10 (scnF pl dy).spells.length c11, iv (scnF pl dy).geese, slv g14 (crtF pl dy).length c15]] (.bool ((stoodF (withF (withF (scnF pl dy) h 0 0) ((geeseF (scnF pl dy) h).1) 1 10000) (crtF pl dy)).2)) (by kernel_rfl) (sound_c _ (withF (withF (scnF pl dy) h 0 0) ((geeseF (scnF pl dy) h).1) 1 10000) (g2.map fun b => ⟨b, 0, none⟩) (scnF pl dy).loads.length c3 (g65.map fun b => ⟨b, 0, none⟩) (((scnF pl dy).stands.length + 1) + 1) c66 (g10.map fun b => ⟨b, 0, none⟩) (scnF pl dy).spells.length c11 (crtF pl dy) (g14.map fun b => ⟨b, 0, none⟩) (crtF pl dy).length c15 ⟨⟨(hI.rowCells 8 rfl r5), rfl, (hI.rowCells 1 rfl r68), (r68.n_eq eLd_len (by decide)), (hI.rowCells 10 rfl r13), rfl, (by omega), (by omega), (by omega)⟩, (hI.rowCells 11 rfl r17), rfl, r17.cap, (by omega), (by omega), (by omega), (by omega)⟩ (withF_ok (withF_ok (scn_ok (hourI_ok h2).1 dy) bd00) bd1)) ?_)
         intro w hI
         refine pu (.bool true) (by kernel_rfl) (pu (.bool false) (by kernel_rfl) (seq_c (s_callv hI 112 [.bool ((stoodF (withF (withF (scnF pl dy) h 0 0) ((geeseF (scnF pl dy) h).1) 1 10000) (crtF pl dy)).2), .bool false] (iv (answerI ((stoodF (withF (withF (scnF pl dy) h 0 0) ((geeseF (scnF pl dy) h).1) 1 10000) (crtF pl dy)).2) false)) (by kernel_rfl) (answer_c ((stoodF (withF (withF (scnF pl dy) h 0 0) ((geeseF (scnF pl dy) h).1) 1 10000) (crtF pl dy)).2) false _) ?_)))
         intro w hI
         refine pu (iv (answerI ((stoodF (withF (withF (scnF pl dy) h 0 0) ((geeseF (scnF pl dy) h).1) 1 10000) (crtF pl dy)).2) false)) (by kernel_rfl) (pu (iv 0) (by kernel_rfl) (seq_nil (wp_ret ?_)))
         exact ⟨.tuple #[iv (answerI ((stoodF (withF (withF (scnF pl dy) h 0 0) ((geeseF (scnF pl dy) h).1) 1 10000) (crtF pl dy)).2) false), iv 0], Ret.r2 rfl rfl rfl, ⟨by simp [openC, h2, h3, h5, h16, h18, h19], hI.below⟩⟩
        ·intro h20 w hI
         refine pu (.bool false) (by kernel_rfl) (pu (.bool false) (by kernel_rfl) (seq_nil (wp_seq (rgn (by kernel_rfl) (seq_c (s_loadK hI 3 7 [iv (scnF pl dy).lo, iv (scnF pl dy).hi, slv g2 (scnF pl dy).loads.length c3, slv g65 (((scnF pl dy).stands.length + 1) + 1) c66, slv g10 (scnF pl dy).spells.length c11, iv (scnF pl dy).geese, slv g14 (crtF pl dy).length c15] Tryz.isAgg116 Tryz.sizeOf116 rfl rfl rfl rfl ?_))))))
         refine seq_c (s_callv hI 87 [.agg #[iv (scnF pl dy).lo, iv (scnF pl dy).hi, slv g2 (scnF pl dy).loads.length c3, slv g65 (((scnF pl dy).stands.length + 1) + 1) c66, slv g10 (scnF pl dy).spells.length c11, iv (scnF pl dy).geese, slv g14 (crtF pl dy).length c15]] (.bool ((stoodF (withF (withF (scnF pl dy) h 0 0) ((geeseF (scnF pl dy) h).1) 1 10000) (crtF pl dy)).2)) (by kernel_rfl) (sound_c _ (withF (withF (scnF pl dy) h 0 0) ((geeseF (scnF pl dy) h).1) 1 10000) (g2.map fun b => ⟨b, 0, none⟩) (scnF pl dy).loads.length c3 (g65.map fun b => ⟨b, 0, none⟩) (((scnF pl dy).stands.length + 1) + 1) c66 (g10.map fun b => ⟨b, 0, none⟩) (scnF pl dy).spells.length c11 (crtF pl dy) (g14.map fun b => ⟨b, 0, none⟩) (crtF pl dy).length c15 ⟨⟨(hI.rowCells 8 rfl r5), rfl, (hI.rowCells 1 rfl r68), (r68.n_eq eLd_len (by decide)), (hI.rowCells 10 rfl r13), rfl, (by omega), (by omega), (by omega)⟩, (hI.rowCells 11 rfl r17), rfl, r17.cap, (by omega), (by omega), (by omega), (by omega)⟩ (withF_ok (withF_ok (scn_ok (hourI_ok h2).1 dy) bd00) bd1)) ?_)
         intro w hI
         refine pu (.bool false) (by kernel_rfl) (pu (.bool true) (by kernel_rfl) (seq_c (s_callv hI 112 [.bool ((stoodF (withF (withF (scnF pl dy) h 0 0) ((geeseF (scnF pl dy) h).1) 1 10000) (crtF pl dy)).2), .bool true] (iv (answerI ((stoodF (withF (withF (scnF pl dy) h 0 0) ((geeseF (scnF pl dy) h).1) 1 10000) (crtF pl dy)).2) true)) (by kernel_rfl) (answer_c ((stoodF (withF (withF (scnF pl dy) h 0 0) ((geeseF (scnF pl dy) h).1) 1 10000) (crtF pl dy)).2) true _) ?_)))
         intro w hI
         refine pu (iv (answerI ((stoodF (withF (withF (scnF pl dy) h 0 0) ((geeseF (scnF pl dy) h).1) 1 10000) (crtF pl dy)).2) true)) (by kernel_rfl) (pu (iv 0) (by kernel_rfl) (seq_nil (wp_ret ?_)))
         exact ⟨.tuple #[iv (answerI ((stoodF (withF (withF (scnF pl dy) h 0 0) ((geeseF (scnF pl dy) h).1) 1 10000) (crtF pl dy)).2) true), iv 0], Ret.r2 rfl rfl rfl, ⟨by simp [openC, h2, h3, h5, h16, h18, h20], hI.below⟩⟩
       ·
        refine seq_c (s_callv hI 119 [.agg #[iv (scnF pl dy).lo, iv (scnF pl dy).hi, slv g2 (scnF pl dy).loads.length c3, slv g6 (scnF pl dy).stands.length c7, slv g10 (scnF pl dy).spells.length c11, iv (scnF pl dy).geese, slv g14 (crtF pl dy).length c15], iv h] (.tuple #[iv ((geeseF (scnF pl dy) h).1), .bool false]) (by kernel_rfl) (Does.mono (geese_c _ (scnF pl dy) (g2.map fun b => ⟨b, 0, none⟩) (scnF pl dy).loads.length c3 (g6.map fun b => ⟨b, 0, none⟩) (scnF pl dy).stands.length c7 (g10.map fun b => ⟨b, 0, none⟩) (scnF pl dy).spells.length c11 (crtF pl dy) (g14.map fun b => ⟨b, 0, none⟩) (crtF pl dy).length c15 ⟨⟨(hI.rowCells 6 rfl r5), rfl, (hI.rowCells 7 rfl r9), rfl, (hI.rowCells 8 rfl r13), rfl, (by omega), (by omega), (by omega)⟩, (hI.rowCells 9 rfl r17), rfl, r17.cap, (by omega), (by omega), (by omega), (by omega)⟩ h (isHour_bd (hourI_ok h2).2.1) ⟨((plotB_iff pl).1 (hourI_ok h2).1).g0, ((plotB_iff pl).1 (hourI_ok h2).1).g1⟩) (fun v w' h => ⟨h.1.trans (by first | (rw [h18]; done) | (rw [h18]; rfl)), h.2⟩)) ?_)
        intro w hI
        refine pu (.tuple #[iv ((geeseF (scnF pl dy) h).1), .bool false]) (by kernel_rfl) (pu (iv ((geeseF (scnF pl dy) h).1)) (by kernel_rfl) (pu (.bool false) (by kernel_rfl) (pu (iv ((geeseF (scnF pl dy) h).1)) (by kernel_rfl) (pu (.bool false) (by kernel_rfl) (seq_nil (wp_seq (rgn (by kernel_rfl) (pu (.bool false) (by kernel_rfl) (seq_nil ?_)))))))))
        refine wp_condF rfl (wp_skip (wp_seq (rgn (by kernel_rfl) (seq_c (s_loadK hI 1 7 [iv (scnF pl dy).lo, iv (scnF pl dy).hi, slv g2 (scnF pl dy).loads.length c3, slv g21 ((scnF pl dy).stands.length + 1) c22, slv g10 (scnF pl dy).spells.length c11, iv (scnF pl dy).geese, slv g14 (crtF pl dy).length c15] Tryz.isAgg116 Tryz.sizeOf116 rfl rfl rfl rfl ?_)))))
        refine seq_c (s_callv hI 87 [.agg #[iv (scnF pl dy).lo, iv (scnF pl dy).hi, slv g2 (scnF pl dy).loads.length c3, slv g21 ((scnF pl dy).stands.length + 1) c22, slv g10 (scnF pl dy).spells.length c11, iv (scnF pl dy).geese, slv g14 (crtF pl dy).length c15]] (.bool ((stoodF (withF (scnF pl dy) h 0 0) (crtF pl dy)).2)) (by kernel_rfl) (sound_c _ (withF (scnF pl dy) h 0 0) (g2.map fun b => ⟨b, 0, none⟩) (scnF pl dy).loads.length c3 (g21.map fun b => ⟨b, 0, none⟩) ((scnF pl dy).stands.length + 1) c22 (g10.map fun b => ⟨b, 0, none⟩) (scnF pl dy).spells.length c11 (crtF pl dy) (g14.map fun b => ⟨b, 0, none⟩) (crtF pl dy).length c15 ⟨⟨(hI.rowCells 6 rfl r5), rfl, (hI.rowCells 2 rfl r24), (r24.n_eq eLd_len (by decide)), (hI.rowCells 8 rfl r13), rfl, (by omega), (by omega), (by omega)⟩, (hI.rowCells 9 rfl r17), rfl, r17.cap, (by omega), (by omega), (by omega), (by omega)⟩ (withF_ok (scn_ok (hourI_ok h2).1 dy) bd00)) ?_)
        intro w hI
        refine pu (.bool false) (by kernel_rfl) (pu (.bool true) (by kernel_rfl) (seq_c (s_callv hI 112 [.bool ((stoodF (withF (scnF pl dy) h 0 0) (crtF pl dy)).2), .bool true] (iv (answerI ((stoodF (withF (scnF pl dy) h 0 0) (crtF pl dy)).2) true)) (by kernel_rfl) (answer_c ((stoodF (withF (scnF pl dy) h 0 0) (crtF pl dy)).2) true _) ?_)))
        intro w hI
        refine pu (iv (answerI ((stoodF (withF (scnF pl dy) h 0 0) (crtF pl dy)).2) true)) (by kernel_rfl) (pu (iv 0) (by kernel_rfl) (seq_nil (wp_ret ?_)))
        exact ⟨.tuple #[iv (answerI ((stoodF (withF (scnF pl dy) h 0 0) (crtF pl dy)).2) true), iv 0], Ret.r2 rfl rfl rfl, ⟨by simp [openC, h2, h3, h5, h16, h18], hI.below⟩⟩
    ·intro w hI
     refine ol_c rfl (s_allocI hI [iv 0, iv 0, .slice none 0 0, .slice none 0 0, .slice none 0 0, iv 0, .slice none 0 0] Tryz.zeroValue116 rfl ?_)
     intro b73 w hI
     refine ⟨_, hI, subk (fun _ h => h.pickL [1, 2, 3, 4, 5, 6, 7, 8] (by decide) rfl) ?_⟩
     intro hsub
     refine any_heavy [3] (by kernel_rfl) rfl (each1 ?_)
     intro w hI
     refine ol_c rfl (s_callNewF hI 118 [.agg #[iv (scnF pl dy).lo, iv (scnF pl dy).hi, slv g2 (scnF pl dy).loads.length c3, slv g6 (scnF pl dy).stands.length c7, slv g10 (scnF pl dy).spells.length c11, iv (scnF pl dy).geese, slv g14 (crtF pl dy).length c15], iv h, .agg #[iv 0, iv 0]] (fun v1 => .agg #[iv (scnF pl dy).lo, iv (scnF pl dy).hi, slv g2 (scnF pl dy).loads.length c3, v1, slv g10 (scnF pl dy).spells.length c11, iv (scnF pl dy).geese, slv g14 (crtF pl dy).length c15]) (by kernel_rfl) (with_c _ (scnF pl dy) (g2.map fun b => ⟨b, 0, none⟩) (scnF pl dy).loads.length c3 (g6.map fun b => ⟨b, 0, none⟩) (scnF pl dy).stands.length c7 (g10.map fun b => ⟨b, 0, none⟩) (scnF pl dy).spells.length c11 (crtF pl dy) (g14.map fun b => ⟨b, 0, none⟩) (crtF pl dy).length c15 ⟨⟨(hI.rowCells 4 rfl r5), rfl, (hI.rowCells 5 rfl r9), rfl, (hI.rowCells 6 rfl r13), rfl, (by omega), (by omega), (by omega)⟩, (hI.rowCells 7 rfl r17), rfl, r17.cap, (by omega), (by omega), (by omega), (by omega)⟩ h 0 0) ?_)
     intro g74 c75 cl76 w hI r77
     refine ⟨_, hI, subk (fun _ h => h.pickL [2, 3, 4, 5, 6, 7, 8, 9] (by decide) rfl) ?_⟩
     intro hsub
     refine any_heavy [7] (by kernel_rfl) rfl (each1 ?_)
     intro w hI
     refine ol_c rfl (s_callNewF hI 118 [.agg #[iv (scnF pl dy).lo, iv (scnF pl dy).hi, slv g2 (scnF pl dy).loads.length c3, slv g6 (scnF pl dy).stands.length c7, slv g10 (scnF pl dy).spells.length c11, iv (scnF pl dy).geese, slv g14 (crtF pl dy).length c15], iv h, .agg #[iv 1, iv 10000]] (fun v1 => .agg #[iv (scnF pl dy).lo, iv (scnF pl dy).hi, slv g2 (scnF pl dy).loads.length c3, v1, slv g10 (scnF pl dy).spells.length c11, iv (scnF pl dy).geese, slv g14 (crtF pl dy).length c15]) (by kernel_rfl) (with_c _ (scnF pl dy) (g2.map fun b => ⟨b, 0, none⟩) (scnF pl dy).loads.length c3 (g6.map fun b => ⟨b, 0, none⟩) (scnF pl dy).stands.length c7 (g10.map fun b => ⟨b, 0, none⟩) (scnF pl dy).spells.length c11 (crtF pl dy) (g14.map fun b => ⟨b, 0, none⟩) (crtF pl dy).length c15 ⟨⟨(hI.rowCells 5 rfl r5), rfl, (hI.rowCells 6 rfl r9), rfl, (hI.rowCells 7 rfl r13), rfl, (by omega), (by omega), (by omega)⟩, (hI.rowCells 8 rfl r17), rfl, r17.cap, (by omega), (by omega), (by omega), (by omega)⟩ h 1 10000) ?_)
     intro g78 c79 cl80 w hI r81
     refine ⟨_, hI, subk (fun _ h => h.pickL [3, 4, 5, 6, 7, 8, 9, 10] (by decide) rfl) ?_⟩
     intro hsub
     refine any_heavy [8] (by kernel_rfl) rfl (each1 ?_)
     intro w hI
     rcases Bool.eq_false_or_eq_true ((stoodF (withF (scnF pl dy) h 1 10000) (crtF pl dy)).2) with h21 | h21
     ·
      refine ol_c rfl (s_callv hI 87 [.agg #[iv (scnF pl dy).lo, iv (scnF pl dy).hi, slv g2 (scnF pl dy).loads.length c3, slv g78 ((scnF pl dy).stands.length + 1) c79, slv g10 (scnF pl dy).spells.length c11, iv (scnF pl dy).geese, slv g14 (crtF pl dy).length c15]] (.bool true) (by kernel_rfl) (Does.mono (sound_c _ (withF (scnF pl dy) h 1 10000) (g2.map fun b => ⟨b, 0, none⟩) (scnF pl dy).loads.length c3 (g78.map fun b => ⟨b, 0, none⟩) ((scnF pl dy).stands.length + 1) c79 (g10.map fun b => ⟨b, 0, none⟩) (scnF pl dy).spells.length c11 (crtF pl dy) (g14.map fun b => ⟨b, 0, none⟩) (crtF pl dy).length c15 ⟨⟨(hI.rowCells 6 rfl r5), rfl, (hI.rowCells 0 rfl r81), (r81.n_eq eLd_len (by decide)), (hI.rowCells 8 rfl r13), rfl, (by omega), (by omega), (by omega)⟩, (hI.rowCells 9 rfl r17), rfl, r17.cap, (by omega), (by omega), (by omega), (by omega)⟩ (withF_ok (scn_ok (hourI_ok h2).1 dy) bd1)) (fun v' w' h => ⟨h.1.trans (congrArg Value.bool h21), h.2⟩)) ?_)
      intro w hI
      refine ⟨_, hI, subk (fun _ h => h.pickL [3, 4, 5, 6, 7, 8, 9, 10] (by decide) rfl) ?_⟩
      intro hsub
      refine any_heavy [10] (by kernel_rfl) rfl (each1 ?_)
      intro w hI
      refine ol_c rfl (s_store hI 2 7 [iv (scnF pl dy).lo, iv (scnF pl dy).hi, slv g2 (scnF pl dy).loads.length c3, slv g74 ((scnF pl dy).stands.length + 1) c75, slv g10 (scnF pl dy).spells.length c11, iv (scnF pl dy).geese, slv g14 (crtF pl dy).length c15] Tryz.sizeOf116 rfl rfl rfl rfl rfl (Nat.le_of_ble_eq_true rfl) ?_)
      intro w hI
      refine ⟨_, hI, subk (fun _ h => h.pickL [3, 4, 5, 6, 7, 8, 9, 10] (by decide) rfl) ?_⟩
      intro hsub
      refine alp 11 (.bool true) hsub rfl (by kernel_rfl) (fun _ => (by kernel_rfl)) ?_
      refine any_end (by kernel_rfl) (fun w hI => ?_)
      refine wp_seq (wp_seq (rgn (by kernel_rfl) (seq_c (s_loadK hI 5 7 [iv (scnF pl dy).lo, iv (scnF pl dy).hi, slv g2 (scnF pl dy).loads.length c3, slv g6 (scnF pl dy).stands.length c7, slv g10 (scnF pl dy).spells.length c11, iv (scnF pl dy).geese, slv g14 (crtF pl dy).length c15] Tryz.isAgg116 Tryz.sizeOf116 rfl rfl rfl rfl ?_))))
      refine pu (iv h) (by kernel_rfl) ?_
      rcases Bool.eq_false_or_eq_true ((geeseF (scnF pl dy) h).2) with h22 | h22
      ·
       refine seq_c (s_callv hI 119 [.agg #[iv (scnF pl dy).lo, iv (scnF pl dy).hi, slv g2 (scnF pl dy).loads.length c3, slv g6 (scnF pl dy).stands.length c7, slv g10 (scnF pl dy).spells.length c11, iv (scnF pl dy).geese, slv g14 (crtF pl dy).length c15], iv h] (.tuple #[iv ((geeseF (scnF pl dy) h).1), .bool true]) (by kernel_rfl) (Does.mono (geese_c _ (scnF pl dy) (g2.map fun b => ⟨b, 0, none⟩) (scnF pl dy).loads.length c3 (g6.map fun b => ⟨b, 0, none⟩) (scnF pl dy).stands.length c7 (g10.map fun b => ⟨b, 0, none⟩) (scnF pl dy).spells.length c11 (crtF pl dy) (g14.map fun b => ⟨b, 0, none⟩) (crtF pl dy).length c15 ⟨⟨(hI.rowCells 6 rfl r5), rfl, (hI.rowCells 7 rfl r9), rfl, (hI.rowCells 8 rfl r13), rfl, (by omega), (by omega), (by omega)⟩, (hI.rowCells 9 rfl r17), rfl, r17.cap, (by omega), (by omega), (by omega), (by omega)⟩ h (isHour_bd (hourI_ok h2).2.1) ⟨((plotB_iff pl).1 (hourI_ok h2).1).g0, ((plotB_iff pl).1 (hourI_ok h2).1).g1⟩) (fun v w' h => ⟨h.1.trans (by first | (rw [h22]; done) | (rw [h22]; rfl)), h.2⟩)) ?_)
       intro w hI
       refine pu (.tuple #[iv ((geeseF (scnF pl dy) h).1), .bool true]) (by kernel_rfl) (pu (iv ((geeseF (scnF pl dy) h).1)) (by kernel_rfl) (pu (.bool true) (by kernel_rfl) (pu (iv ((geeseF (scnF pl dy) h).1)) (by kernel_rfl) (pu (.bool true) (by kernel_rfl) (seq_nil (wp_seq (rgn (by kernel_rfl) (pu (.bool true) (by kernel_rfl) (seq_nil ?_)))))))))
       refine wp_condT rfl (wp_seq (rgn (by kernel_rfl) (seq_c (s_loadK hI 2 7 [iv (scnF pl dy).lo, iv (scnF pl dy).hi, slv g2 (scnF pl dy).loads.length c3, slv g74 ((scnF pl dy).stands.length + 1) c75, slv g10 (scnF pl dy).spells.length c11, iv (scnF pl dy).geese, slv g14 (crtF pl dy).length c15] Tryz.isAgg116 Tryz.sizeOf116 rfl rfl rfl rfl ?_))))
       refine pu (iv ((geeseF (scnF pl dy) h).1)) (by kernel_rfl) (seq_c (s_loadK hI 3 2 [iv 1, iv 10000] Tryz.isAgg23 Tryz.sizeOf23 rfl rfl rfl rfl ?_))
       refine seq_c (s_callNewF hI 118 [.agg #[iv (scnF pl dy).lo, iv (scnF pl dy).hi, slv g2 (scnF pl dy).loads.length c3, slv g74 ((scnF pl dy).stands.length + 1) c75, slv g10 (scnF pl dy).spells.length c11, iv (scnF pl dy).geese, slv g14 (crtF pl dy).length c15], iv ((geeseF (scnF pl dy) h).1), .agg #[iv 1, iv 10000]] (fun v1 => .agg #[iv (scnF pl dy).lo, iv (scnF pl dy).hi, slv g2 (scnF pl dy).loads.length c3, v1, slv g10 (scnF pl dy).spells.length c11, iv (scnF pl dy).geese, slv g14 (crtF pl dy).length c15]) (by kernel_rfl) (with_c _ (withF (scnF pl dy) h 0 0) (g2.map fun b => ⟨b, 0, none⟩) (scnF pl dy).loads.length c3 (g74.map fun b => ⟨b, 0, none⟩) ((scnF pl dy).stands.length + 1) c75 (g10.map fun b => ⟨b, 0, none⟩) (scnF pl dy).spells.length c11 (crtF pl dy) (g14.map fun b => ⟨b, 0, none⟩) (crtF pl dy).length c15 ⟨⟨(hI.rowCells 6 rfl r5), rfl, (hI.rowCells 1 rfl r77), (r77.n_eq eLd_len (by decide)), (hI.rowCells 8 rfl r13), rfl, (by omega), (by omega), (by omega)⟩, (hI.rowCells 9 rfl r17), rfl, r17.cap, (by omega), (by omega), (by omega), (by omega)⟩ ((geeseF (scnF pl dy) h).1) 1 10000) ?_)
       intro g82 c83 cl84 w hI r85
       refine seq_c (s_store hI 3 7 [iv (scnF pl dy).lo, iv (scnF pl dy).hi, slv g2 (scnF pl dy).loads.length c3, slv g82 (((scnF pl dy).stands.length + 1) + 1) c83, slv g10 (scnF pl dy).spells.length c11, iv (scnF pl dy).geese, slv g14 (crtF pl dy).length c15] Tryz.sizeOf116 rfl rfl rfl rfl rfl (Nat.le_of_ble_eq_true rfl) ?_)
       intro w hI
       refine seq_nil (rgn (by kernel_rfl) (pu (.bool true) (by kernel_rfl) (pu (.bool true) (by kernel_rfl) (of_ (by kernel_rfl) (of_ (by kernel_rfl) (of_ (by kernel_rfl) (of_ (by kernel_rfl) (of_ (by kernel_rfl) (pu (.bool true) (by kernel_rfl) ?_)))))))))
       refine pu (.bool true) (by kernel_rfl) (seq_nil (wp_seq (rgn (by kernel_rfl) (seq_c (s_loadK hI 3 7 [iv (scnF pl dy).lo, iv (scnF pl dy).hi, slv g2 (scnF pl dy).loads.length c3, slv g82 (((scnF pl dy).stands.length + 1) + 1) c83, slv g10 (scnF pl dy).spells.length c11, iv (scnF pl dy).geese, slv g14 (crtF pl dy).length c15] Tryz.isAgg116 Tryz.sizeOf116 rfl rfl rfl rfl ?_)))))
       refine seq_c (s_callv hI 87 [.agg #[iv (scnF pl dy).lo, iv (scnF pl dy).hi, slv g2 (scnF pl dy).loads.length c3, slv g82 (((scnF pl dy).stands.length + 1) + 1) c83, slv g10 (scnF pl dy).spells.length c11, iv (scnF pl dy).geese, slv g14 (crtF pl dy).length c15]] (.bool ((stoodF (withF (withF (scnF pl dy) h 0 0) ((geeseF (scnF pl dy) h).1) 1 10000) (crtF pl dy)).2)) (by kernel_rfl) (sound_c _ (withF (withF (scnF pl dy) h 0 0) ((geeseF (scnF pl dy) h).1) 1 10000) (g2.map fun b => ⟨b, 0, none⟩) (scnF pl dy).loads.length c3 (g82.map fun b => ⟨b, 0, none⟩) (((scnF pl dy).stands.length + 1) + 1) c83 (g10.map fun b => ⟨b, 0, none⟩) (scnF pl dy).spells.length c11 (crtF pl dy) (g14.map fun b => ⟨b, 0, none⟩) (crtF pl dy).length c15 ⟨⟨(hI.rowCells 7 rfl r5), rfl, (hI.rowCells 0 rfl r85), (r85.n_eq eLd_len (by decide)), (hI.rowCells 9 rfl r13), rfl, (by omega), (by omega), (by omega)⟩, (hI.rowCells 10 rfl r17), rfl, r17.cap, (by omega), (by omega), (by omega), (by omega)⟩ (withF_ok (withF_ok (scn_ok (hourI_ok h2).1 dy) bd00) bd1)) ?_)
       intro w hI
       refine pu (.bool true) (by kernel_rfl) (pu (.bool false) (by kernel_rfl) (seq_c (s_callv hI 112 [.bool ((stoodF (withF (withF (scnF pl dy) h 0 0) ((geeseF (scnF pl dy) h).1) 1 10000) (crtF pl dy)).2), .bool false] (iv (answerI ((stoodF (withF (withF (scnF pl dy) h 0 0) ((geeseF (scnF pl dy) h).1) 1 10000) (crtF pl dy)).2) false)) (by kernel_rfl) (answer_c ((stoodF (withF (withF (scnF pl dy) h 0 0) ((geeseF (scnF pl dy) h).1) 1 10000) (crtF pl dy)).2) false _) ?_)))
       intro w hI
       refine pu (iv (answerI ((stoodF (withF (withF (scnF pl dy) h 0 0) ((geeseF (scnF pl dy) h).1) 1 10000) (crtF pl dy)).2) false)) (by kernel_rfl) (pu (iv 0) (by kernel_rfl) (seq_nil (wp_ret ?_)))
       exact ⟨.tuple #[iv (answerI ((stoodF (withF (withF (scnF pl dy) h 0 0) ((geeseF (scnF pl dy) h).1) 1 10000) (crtF pl dy)).2) false), iv 0], Ret.r2 rfl rfl rfl, ⟨by simp [openC, h2, h3, h5, h21, h22], hI.below⟩⟩
      ·
       refine seq_c (s_callv hI 119 [.agg #[iv (scnF pl dy).lo, iv (scnF pl dy).hi, slv g2 (scnF pl dy).loads.length c3, slv g6 (scnF pl dy).stands.length c7, slv g10 (scnF pl dy).spells.length c11, iv (scnF pl dy).geese, slv g14 (crtF pl dy).length c15], iv h] (.tuple #[iv ((geeseF (scnF pl dy) h).1), .bool false]) (by kernel_rfl) (Does.mono (geese_c _ (scnF pl dy) (g2.map fun b => ⟨b, 0, none⟩) (scnF pl dy).loads.length c3 (g6.map fun b => ⟨b, 0, none⟩) (scnF pl dy).stands.length c7 (g10.map fun b => ⟨b, 0, none⟩) (scnF pl dy).spells.length c11 (crtF pl dy) (g14.map fun b => ⟨b, 0, none⟩) (crtF pl dy).length c15 ⟨⟨(hI.rowCells 6 rfl r5), rfl, (hI.rowCells 7 rfl r9), rfl, (hI.rowCells 8 rfl r13), rfl, (by omega), (by omega), (by omega)⟩, (hI.rowCells 9 rfl r17), rfl, r17.cap, (by omega), (by omega), (by omega), (by omega)⟩ h (isHour_bd (hourI_ok h2).2.1) ⟨((plotB_iff pl).1 (hourI_ok h2).1).g0, ((plotB_iff pl).1 (hourI_ok h2).1).g1⟩) (fun v w' h => ⟨h.1.trans (by first | (rw [h22]; done) | (rw [h22]; rfl)), h.2⟩)) ?_)
       intro w hI
       refine pu (.tuple #[iv ((geeseF (scnF pl dy) h).1), .bool false]) (by kernel_rfl) (pu (iv ((geeseF (scnF pl dy) h).1)) (by kernel_rfl) (pu (.bool false) (by kernel_rfl) (pu (iv ((geeseF (scnF pl dy) h).1)) (by kernel_rfl) (pu (.bool false) (by kernel_rfl) (seq_nil (wp_seq (rgn (by kernel_rfl) (pu (.bool false) (by kernel_rfl) (seq_nil ?_)))))))))
       refine wp_condF rfl (wp_skip (wp_seq (rgn (by kernel_rfl) (seq_c (s_loadK hI 2 7 [iv (scnF pl dy).lo, iv (scnF pl dy).hi, slv g2 (scnF pl dy).loads.length c3, slv g74 ((scnF pl dy).stands.length + 1) c75, slv g10 (scnF pl dy).spells.length c11, iv (scnF pl dy).geese, slv g14 (crtF pl dy).length c15] Tryz.isAgg116 Tryz.sizeOf116 rfl rfl rfl rfl ?_)))))
       refine seq_c (s_callv hI 87 [.agg #[iv (scnF pl dy).lo, iv (scnF pl dy).hi, slv g2 (scnF pl dy).loads.length c3, slv g74 ((scnF pl dy).stands.length + 1) c75, slv g10 (scnF pl dy).spells.length c11, iv (scnF pl dy).geese, slv g14 (crtF pl dy).length c15]] (.bool ((stoodF (withF (scnF pl dy) h 0 0) (crtF pl dy)).2)) (by kernel_rfl) (sound_c _ (withF (scnF pl dy) h 0 0) (g2.map fun b => ⟨b, 0, none⟩) (scnF pl dy).loads.length c3 (g74.map fun b => ⟨b, 0, none⟩) ((scnF pl dy).stands.length + 1) c75 (g10.map fun b => ⟨b, 0, none⟩) (scnF pl dy).spells.length c11 (crtF pl dy) (g14.map fun b => ⟨b, 0, none⟩) (crtF pl dy).length c15 ⟨⟨(hI.rowCells 6 rfl r5), rfl, (hI.rowCells 1 rfl r77), (r77.n_eq eLd_len (by decide)), (hI.rowCells 8 rfl r13), rfl, (by omega), (by omega), (by omega)⟩, (hI.rowCells 9 rfl r17), rfl, r17.cap, (by omega), (by omega), (by omega), (by omega)⟩ (withF_ok (scn_ok (hourI_ok h2).1 dy) bd00)) ?_)
       intro w hI
       refine pu (.bool true) (by kernel_rfl) (pu (.bool false) (by kernel_rfl) (seq_c (s_callv hI 112 [.bool ((stoodF (withF (scnF pl dy) h 0 0) (crtF pl dy)).2), .bool false] (iv (answerI ((stoodF (withF (scnF pl dy) h 0 0) (crtF pl dy)).2) false)) (by kernel_rfl) (answer_c ((stoodF (withF (scnF pl dy) h 0 0) (crtF pl dy)).2) false _) ?_)))
       intro w hI
       refine pu (iv (answerI ((stoodF (withF (scnF pl dy) h 0 0) (crtF pl dy)).2) false)) (by kernel_rfl) (pu (iv 0) (by kernel_rfl) (seq_nil (wp_ret ?_)))
       exact ⟨.tuple #[iv (answerI ((stoodF (withF (scnF pl dy) h 0 0) (crtF pl dy)).2) false), iv 0], Ret.r2 rfl rfl rfl, ⟨by simp [openC, h2, h3, h5, h21, h22], hI.below⟩⟩
     ·
      refine ol_c rfl (s_callv hI 87 [.agg #[iv (scnF pl dy).lo, iv (scnF pl dy).hi, slv g2 (scnF pl dy).loads.length c3, slv g78 ((scnF pl dy).stands.length + 1) c79, slv g10 (scnF pl dy).spells.length c11, iv (scnF pl dy).geese, slv g14 (crtF pl dy).length c15]] (.bool false) (by kernel_rfl) (Does.mono (sound_c _ (withF (scnF pl dy) h 1 10000) (g2.map fun b => ⟨b, 0, none⟩) (scnF pl dy).loads.length c3 (g78.map fun b => ⟨b, 0, none⟩) ((scnF pl dy).stands.length + 1) c79 (g10.map fun b => ⟨b, 0, none⟩) (scnF pl dy).spells.length c11 (crtF pl dy) (g14.map fun b => ⟨b, 0, none⟩) (crtF pl dy).length c15 ⟨⟨(hI.rowCells 6 rfl r5), rfl, (hI.rowCells 0 rfl r81), (r81.n_eq eLd_len (by decide)), (hI.rowCells 8 rfl r13), rfl, (by omega), (by omega), (by omega)⟩, (hI.rowCells 9 rfl r17), rfl, r17.cap, (by omega), (by omega), (by omega), (by omega)⟩ (withF_ok (scn_ok (hourI_ok h2).1 dy) bd1)) (fun v' w' h => ⟨h.1.trans (congrArg Value.bool h21), h.2⟩)) ?_)
      intro w hI
      refine ⟨_, hI, subk (fun _ h => h.pickL [3, 4, 5, 6, 7, 8, 9, 10] (by decide) rfl) ?_⟩
      intro hsub
      refine any_heavy [10] (by kernel_rfl) rfl (each1 ?_)
      intro w hI
      refine ol_c rfl (s_store hI 2 7 [iv (scnF pl dy).lo, iv (scnF pl dy).hi, slv g2 (scnF pl dy).loads.length c3, slv g74 ((scnF pl dy).stands.length + 1) c75, slv g10 (scnF pl dy).spells.length c11, iv (scnF pl dy).geese, slv g14 (crtF pl dy).length c15] Tryz.sizeOf116 rfl rfl rfl rfl rfl (Nat.le_of_ble_eq_true rfl) ?_)
      intro w hI
      refine ⟨_, hI, subk (fun _ h => h.pickL [3, 4, 5, 6, 7, 8, 9, 10] (by decide) rfl) ?_⟩
      intro hsub
      refine alp 11 (.bool false) hsub rfl (by kernel_rfl) (fun _ => (by kernel_rfl)) ?_
      refine any_end (by kernel_rfl) (fun w hI => ?_)
      refine wp_seq (wp_seq (rgn (by kernel_rfl) (seq_c (s_loadK hI 5 7 [iv (scnF pl dy).lo, iv (scnF pl dy).hi, slv g2 (scnF pl dy).loads.length c3, slv g6 (scnF pl dy).stands.length c7, slv g10 (scnF pl dy).spells.length c11, iv (scnF pl dy).geese, slv g14 (crtF pl dy).length c15] Tryz.isAgg116 Tryz.sizeOf116 rfl rfl rfl rfl ?_))))
      refine pu (iv h) (by kernel_rfl) ?_
      rcases Bool.eq_false_or_eq_true ((geeseF (scnF pl dy) h).2) with h23 | h23
      ·
       refine seq_c (s_callv hI 119 [.agg #[iv (scnF pl dy).lo, iv (scnF pl dy).hi, slv g2 (scnF pl dy).loads.length c3, slv g6 (scnF pl dy).stands.length c7, slv g10 (scnF pl dy).spells.length c11, iv (scnF pl dy).geese, slv g14 (crtF pl dy).length c15], iv h] (.tuple #[iv ((geeseF (scnF pl dy) h).1), .bool true]) (by kernel_rfl) (Does.mono (geese_c _ (scnF pl dy) (g2.map fun b => ⟨b, 0, none⟩) (scnF pl dy).loads.length c3 (g6.map fun b => ⟨b, 0, none⟩) (scnF pl dy).stands.length c7 (g10.map fun b => ⟨b, 0, none⟩) (scnF pl dy).spells.length c11 (crtF pl dy) (g14.map fun b => ⟨b, 0, none⟩) (crtF pl dy).length c15 ⟨⟨(hI.rowCells 6 rfl r5), rfl, (hI.rowCells 7 rfl r9), rfl, (hI.rowCells 8 rfl r13), rfl, (by omega), (by omega), (by omega)⟩, (hI.rowCells 9 rfl r17), rfl, r17.cap, (by omega), (by omega), (by omega), (by omega)⟩ h (isHour_bd (hourI_ok h2).2.1) ⟨((plotB_iff pl).1 (hourI_ok h2).1).g0, ((plotB_iff pl).1 (hourI_ok h2).1).g1⟩) (fun v w' h => ⟨h.1.trans (by first | (rw [h23]; done) | (rw [h23]; rfl)), h.2⟩)) ?_)
       intro w hI
       refine pu (.tuple #[iv ((geeseF (scnF pl dy) h).1), .bool true]) (by kernel_rfl) (pu (iv ((geeseF (scnF pl dy) h).1)) (by kernel_rfl) (pu (.bool true) (by kernel_rfl) (pu (iv ((geeseF (scnF pl dy) h).1)) (by kernel_rfl) (pu (.bool true) (by kernel_rfl) (seq_nil (wp_seq (rgn (by kernel_rfl) (pu (.bool true) (by kernel_rfl) (seq_nil ?_)))))))))
       refine wp_condT rfl (wp_seq (rgn (by kernel_rfl) (seq_c (s_loadK hI 2 7 [iv (scnF pl dy).lo, iv (scnF pl dy).hi, slv g2 (scnF pl dy).loads.length c3, slv g74 ((scnF pl dy).stands.length + 1) c75, slv g10 (scnF pl dy).spells.length c11, iv (scnF pl dy).geese, slv g14 (crtF pl dy).length c15] Tryz.isAgg116 Tryz.sizeOf116 rfl rfl rfl rfl ?_))))
       refine pu (iv ((geeseF (scnF pl dy) h).1)) (by kernel_rfl) (seq_c (s_loadK hI 3 2 [iv 1, iv 10000] Tryz.isAgg23 Tryz.sizeOf23 rfl rfl rfl rfl ?_))
       refine seq_c (s_callNewF hI 118 [.agg #[iv (scnF pl dy).lo, iv (scnF pl dy).hi, slv g2 (scnF pl dy).loads.length c3, slv g74 ((scnF pl dy).stands.length + 1) c75, slv g10 (scnF pl dy).spells.length c11, iv (scnF pl dy).geese, slv g14 (crtF pl dy).length c15], iv ((geeseF (scnF pl dy) h).1), .agg #[iv 1, iv 10000]] (fun v1 => .agg #[iv (scnF pl dy).lo, iv (scnF pl dy).hi, slv g2 (scnF pl dy).loads.length c3, v1, slv g10 (scnF pl dy).spells.length c11, iv (scnF pl dy).geese, slv g14 (crtF pl dy).length c15]) (by kernel_rfl) (with_c _ (withF (scnF pl dy) h 0 0) (g2.map fun b => ⟨b, 0, none⟩) (scnF pl dy).loads.length c3 (g74.map fun b => ⟨b, 0, none⟩) ((scnF pl dy).stands.length + 1) c75 (g10.map fun b => ⟨b, 0, none⟩) (scnF pl dy).spells.length c11 (crtF pl dy) (g14.map fun b => ⟨b, 0, none⟩) (crtF pl dy).length c15 ⟨⟨(hI.rowCells 6 rfl r5), rfl, (hI.rowCells 1 rfl r77), (r77.n_eq eLd_len (by decide)), (hI.rowCells 8 rfl r13), rfl, (by omega), (by omega), (by omega)⟩, (hI.rowCells 9 rfl r17), rfl, r17.cap, (by omega), (by omega), (by omega), (by omega)⟩ ((geeseF (scnF pl dy) h).1) 1 10000) ?_)
       intro g86 c87 cl88 w hI r89
       refine seq_c (s_store hI 3 7 [iv (scnF pl dy).lo, iv (scnF pl dy).hi, slv g2 (scnF pl dy).loads.length c3, slv g86 (((scnF pl dy).stands.length + 1) + 1) c87, slv g10 (scnF pl dy).spells.length c11, iv (scnF pl dy).geese, slv g14 (crtF pl dy).length c15] Tryz.sizeOf116 rfl rfl rfl rfl rfl (Nat.le_of_ble_eq_true rfl) ?_)
       intro w hI
       refine seq_nil (rgn (by kernel_rfl) (pu (.bool false) (by kernel_rfl) (pu (.bool false) (by kernel_rfl) (seq_on (by kernel_rfl) (s_loadK hI 6 7 [iv (scnF pl dy).lo, iv (scnF pl dy).hi, slv g2 (scnF pl dy).loads.length c3, slv g6 (scnF pl dy).stands.length c7, slv g10 (scnF pl dy).spells.length c11, iv (scnF pl dy).geese, slv g14 (crtF pl dy).length c15] Tryz.isAgg116 Tryz.sizeOf116 rfl rfl rfl rfl ?_)))))
       refine puo (iv ((geeseF (scnF pl dy) h).1)) ⟨(by kernel_rfl), (by kernel_rfl)⟩ (seq_on (by kernel_rfl) (s_loadK hI 5 2 [iv 0, iv 0] Tryz.isAgg23 Tryz.sizeOf23 rfl rfl rfl rfl ?_))
       refine seq_on (by kernel_rfl) (s_callNewF hI 118 [.agg #[iv (scnF pl dy).lo, iv (scnF pl dy).hi, slv g2 (scnF pl dy).loads.length c3, slv g6 (scnF pl dy).stands.length c7, slv g10 (scnF pl dy).spells.length c11, iv (scnF pl dy).geese, slv g14 (crtF pl dy).length c15], iv ((geeseF (scnF pl dy) h).1), .agg #[iv 0, iv 0]] (fun v1 => .agg #[iv (scnF pl dy).lo, iv (scnF pl dy).hi, slv g2 (scnF pl dy).loads.length c3, v1, slv g10 (scnF pl dy).spells.length c11, iv (scnF pl dy).geese, slv g14 (crtF pl dy).length c15]) (by kernel_rfl) (with_c _ (scnF pl dy) (g2.map fun b => ⟨b, 0, none⟩) (scnF pl dy).loads.length c3 (g6.map fun b => ⟨b, 0, none⟩) (scnF pl dy).stands.length c7 (g10.map fun b => ⟨b, 0, none⟩) (scnF pl dy).spells.length c11 (crtF pl dy) (g14.map fun b => ⟨b, 0, none⟩) (crtF pl dy).length c15 ⟨⟨(hI.rowCells 7 rfl r5), rfl, (hI.rowCells 8 rfl r9), rfl, (hI.rowCells 9 rfl r13), rfl, (by omega), (by omega), (by omega)⟩, (hI.rowCells 10 rfl r17), rfl, r17.cap, (by omega), (by omega), (by omega), (by omega)⟩ ((geeseF (scnF pl dy) h).1) 0 0) ?_)
       intro g90 c91 cl92 w hI r93
       refine seq_on (by kernel_rfl) (s_callb hI 87 [.agg #[iv (scnF pl dy).lo, iv (scnF pl dy).hi, slv g2 (scnF pl dy).loads.length c3, slv g90 ((scnF pl dy).stands.length + 1) c91, slv g10 (scnF pl dy).spells.length c11, iv (scnF pl dy).geese, slv g14 (crtF pl dy).length c15]] ((stoodF (withF (scnF pl dy) ((geeseF (scnF pl dy) h).1) 0 0) (crtF pl dy)).2) (by kernel_rfl) (sound_c _ (withF (scnF pl dy) ((geeseF (scnF pl dy) h).1) 0 0) (g2.map fun b => ⟨b, 0, none⟩) (scnF pl dy).loads.length c3 (g90.map fun b => ⟨b, 0, none⟩) ((scnF pl dy).stands.length + 1) c91 (g10.map fun b => ⟨b, 0, none⟩) (scnF pl dy).spells.length c11 (crtF pl dy) (g14.map fun b => ⟨b, 0, none⟩) (crtF pl dy).length c15 ⟨⟨(hI.rowCells 8 rfl r5), rfl, (hI.rowCells 0 rfl r93), (r93.n_eq eLd_len (by decide)), (hI.rowCells 10 rfl r13), rfl, (by omega), (by omega), (by omega)⟩, (hI.rowCells 11 rfl r17), rfl, r17.cap, (by omega), (by omega), (by omega), (by omega)⟩ (withF_ok (scn_ok (hourI_ok h2).1 dy) bd00)) ?_ ?_)
       ·intro h24 w hI
        refine pu (.bool true) (by kernel_rfl) (pu (.bool true) (by kernel_rfl) (seq_nil (wp_seq (rgn (by kernel_rfl) (seq_c (s_loadK hI 4 7 [iv (scnF pl dy).lo, iv (scnF pl dy).hi, slv g2 (scnF pl dy).loads.length c3, slv g86 (((scnF pl dy).stands.length + 1) + 1) c87, slv g10 (scnF pl dy).spells.length c11, iv (scnF pl dy).geese, slv g14 (crtF pl dy).length c15] Tryz.isAgg116 Tryz.sizeOf116 rfl rfl rfl rfl ?_))))))
        refine seq_c (s_callv hI 87 [.agg #[iv (scnF pl dy).lo, iv (scnF pl dy).hi, slv g2 (scnF pl dy).loads.length c3, slv g86 (((scnF pl dy).stands.length + 1) + 1) c87, slv g10 (scnF pl dy).spells.length c11, iv (scnF pl dy).geese, slv g14 (crtF pl dy).length c15]] (.bool ((stoodF (withF (withF (scnF pl dy) h 0 0) ((geeseF (scnF pl dy) h).1) 1 10000) (crtF pl dy)).2)) (by kernel_rfl) (sound_c _ (withF (withF (scnF pl dy) h 0 0) ((geeseF (scnF pl dy) h).1) 1 10000) (g2.map fun b => ⟨b, 0, none⟩) (scnF pl dy).loads.length c3 (g86.map fun b => ⟨b, 0, none⟩) (((scnF pl dy).stands.length + 1) + 1) c87 (g10.map fun b => ⟨b, 0, none⟩) (scnF pl dy).spells.length c11 (crtF pl dy) (g14.map fun b => ⟨b, 0, none⟩) (crtF pl dy).length c15 ⟨⟨(hI.rowCells 8 rfl r5), rfl, (hI.rowCells 1 rfl r89), (r89.n_eq eLd_len (by decide)), (hI.rowCells 10 rfl r13), rfl, (by omega), (by omega), (by omega)⟩, (hI.rowCells 11 rfl r17), rfl, r17.cap, (by omega), (by omega), (by omega), (by omega)⟩ (withF_ok (withF_ok (scn_ok (hourI_ok h2).1 dy) bd00) bd1)) ?_)
        intro w hI
        refine pu (.bool true) (by kernel_rfl) (pu (.bool false) (by kernel_rfl) (seq_c (s_callv hI 112 [.bool ((stoodF (withF (withF (scnF pl dy) h 0 0) ((geeseF (scnF pl dy) h).1) 1 10000) (crtF pl dy)).2), .bool false] (iv (answerI ((stoodF (withF (withF (scnF pl dy) h 0 0) ((geeseF (scnF pl dy) h).1) 1 10000) (crtF pl dy)).2) false)) (by kernel_rfl) (answer_c ((stoodF (withF (withF (scnF pl dy) h 0 0) ((geeseF (scnF pl dy) h).1) 1 10000) (crtF pl dy)).2) false _) ?_)))
        intro w hI
        refine pu (iv (answerI ((stoodF (withF (withF (scnF pl dy) h 0 0) ((geeseF (scnF pl dy) h).1) 1 10000) (crtF pl dy)).2) false)) (by kernel_rfl) (pu (iv 0) (by kernel_rfl) (seq_nil (wp_ret ?_)))
        exact ⟨.tuple #[iv (answerI ((stoodF (withF (withF (scnF pl dy) h 0 0) ((geeseF (scnF pl dy) h).1) 1 10000) (crtF pl dy)).2) false), iv 0], Ret.r2 rfl rfl rfl, ⟨by simp [openC, h2, h3, h5, h21, h23, h24], hI.below⟩⟩
       ·intro h25 w hI
        refine pu (.bool false) (by kernel_rfl) (pu (.bool false) (by kernel_rfl) (seq_nil (wp_seq (rgn (by kernel_rfl) (seq_c (s_loadK hI 4 7 [iv (scnF pl dy).lo, iv (scnF pl dy).hi, slv g2 (scnF pl dy).loads.length c3, slv g86 (((scnF pl dy).stands.length + 1) + 1) c87, slv g10 (scnF pl dy).spells.length c11, iv (scnF pl dy).geese, slv g14 (crtF pl dy).length c15] Tryz.isAgg116 Tryz.sizeOf116 rfl rfl rfl rfl ?_))))))
        refine seq_c (s_callv hI 87 [.agg #[iv (scnF pl dy).lo, iv (scnF pl dy).hi, slv g2 (scnF pl dy).loads.length c3, slv g86 (((scnF pl dy).stands.length + 1) + 1) c87, slv g10 (scnF pl dy).spells.length c11, iv (scnF pl dy).geese, slv g14 (crtF pl dy).length c15]] (.bool ((stoodF (withF (withF (scnF pl dy) h 0 0) ((geeseF (scnF pl dy) h).1) 1 10000) (crtF pl dy)).2)) (by kernel_rfl) (sound_c _ (withF (withF (scnF pl dy) h 0 0) ((geeseF (scnF pl dy) h).1) 1 10000) (g2.map fun b => ⟨b, 0, none⟩) (scnF pl dy).loads.length c3 (g86.map fun b => ⟨b, 0, none⟩) (((scnF pl dy).stands.length + 1) + 1) c87 (g10.map fun b => ⟨b, 0, none⟩) (scnF pl dy).spells.length c11 (crtF pl dy) (g14.map fun b => ⟨b, 0, none⟩) (crtF pl dy).length c15 ⟨⟨(hI.rowCells 8 rfl r5), rfl, (hI.rowCells 1 rfl r89), (r89.n_eq eLd_len (by decide)), (hI.rowCells 10 rfl r13), rfl, (by omega), (by omega), (by omega)⟩, (hI.rowCells 11 rfl r17), rfl, r17.cap, (by omega), (by omega), (by omega), (by omega)⟩ (withF_ok (withF_ok (scn_ok (hourI_ok h2).1 dy) bd00) bd1)) ?_)
        intro w hI
        refine pu (.bool false) (by kernel_rfl) (pu (.bool true) (by kernel_rfl) (seq_c (s_callv hI 112 [.bool ((stoodF (withF (withF (scnF pl dy) h 0 0) ((geeseF (scnF pl dy) h).1) 1 10000) (crtF pl dy)).2), .bool true] (iv (answerI ((stoodF (withF (withF (scnF pl dy) h 0 0) ((geeseF (scnF pl dy) h).1) 1 10000) (crtF pl dy)).2) true)) (by kernel_rfl) (answer_c ((stoodF (withF (withF (scnF pl dy) h 0 0) ((geeseF (scnF pl dy) h).1) 1 10000) (crtF pl dy)).2) true _) ?_)))
        intro w hI
        refine pu (iv (answerI ((stoodF (withF (withF (scnF pl dy) h 0 0) ((geeseF (scnF pl dy) h).1) 1 10000) (crtF pl dy)).2) true)) (by kernel_rfl) (pu (iv 0) (by kernel_rfl) (seq_nil (wp_ret ?_)))
        exact ⟨.tuple #[iv (answerI ((stoodF (withF (withF (scnF pl dy) h 0 0) ((geeseF (scnF pl dy) h).1) 1 10000) (crtF pl dy)).2) true), iv 0], Ret.r2 rfl rfl rfl, ⟨by simp [openC, h2, h3, h5, h21, h23, h25], hI.below⟩⟩
      ·
       refine seq_c (s_callv hI 119 [.agg #[iv (scnF pl dy).lo, iv (scnF pl dy).hi, slv g2 (scnF pl dy).loads.length c3, slv g6 (scnF pl dy).stands.length c7, slv g10 (scnF pl dy).spells.length c11, iv (scnF pl dy).geese, slv g14 (crtF pl dy).length c15], iv h] (.tuple #[iv ((geeseF (scnF pl dy) h).1), .bool false]) (by kernel_rfl) (Does.mono (geese_c _ (scnF pl dy) (g2.map fun b => ⟨b, 0, none⟩) (scnF pl dy).loads.length c3 (g6.map fun b => ⟨b, 0, none⟩) (scnF pl dy).stands.length c7 (g10.map fun b => ⟨b, 0, none⟩) (scnF pl dy).spells.length c11 (crtF pl dy) (g14.map fun b => ⟨b, 0, none⟩) (crtF pl dy).length c15 ⟨⟨(hI.rowCells 6 rfl r5), rfl, (hI.rowCells 7 rfl r9), rfl, (hI.rowCells 8 rfl r13), rfl, (by omega), (by omega), (by omega)⟩, (hI.rowCells 9 rfl r17), rfl, r17.cap, (by omega), (by omega), (by omega), (by omega)⟩ h (isHour_bd (hourI_ok h2).2.1) ⟨((plotB_iff pl).1 (hourI_ok h2).1).g0, ((plotB_iff pl).1 (hourI_ok h2).1).g1⟩) (fun v w' h => ⟨h.1.trans (by first | (rw [h23]; done) | (rw [h23]; rfl)), h.2⟩)) ?_)
       intro w hI
       refine pu (.tuple #[iv ((geeseF (scnF pl dy) h).1), .bool false]) (by kernel_rfl) (pu (iv ((geeseF (scnF pl dy) h).1)) (by kernel_rfl) (pu (.bool false) (by kernel_rfl) (pu (iv ((geeseF (scnF pl dy) h).1)) (by kernel_rfl) (pu (.bool false) (by kernel_rfl) (seq_nil (wp_seq (rgn (by kernel_rfl) (pu (.bool false) (by kernel_rfl) (seq_nil ?_)))))))))
       refine wp_condF rfl (wp_skip (wp_seq (rgn (by kernel_rfl) (seq_c (s_loadK hI 2 7 [iv (scnF pl dy).lo, iv (scnF pl dy).hi, slv g2 (scnF pl dy).loads.length c3, slv g74 ((scnF pl dy).stands.length + 1) c75, slv g10 (scnF pl dy).spells.length c11, iv (scnF pl dy).geese, slv g14 (crtF pl dy).length c15] Tryz.isAgg116 Tryz.sizeOf116 rfl rfl rfl rfl ?_)))))
       refine seq_c (s_callv hI 87 [.agg #[iv (scnF pl dy).lo, iv (scnF pl dy).hi, slv g2 (scnF pl dy).loads.length c3, slv g74 ((scnF pl dy).stands.length + 1) c75, slv g10 (scnF pl dy).spells.length c11, iv (scnF pl dy).geese, slv g14 (crtF pl dy).length c15]] (.bool ((stoodF (withF (scnF pl dy) h 0 0) (crtF pl dy)).2)) (by kernel_rfl) (sound_c _ (withF (scnF pl dy) h 0 0) (g2.map fun b => ⟨b, 0, none⟩) (scnF pl dy).loads.length c3 (g74.map fun b => ⟨b, 0, none⟩) ((scnF pl dy).stands.length + 1) c75 (g10.map fun b => ⟨b, 0, none⟩) (scnF pl dy).spells.length c11 (crtF pl dy) (g14.map fun b => ⟨b, 0, none⟩) (crtF pl dy).length c15 ⟨⟨(hI.rowCells 6 rfl r5), rfl, (hI.rowCells 1 rfl r77), (r77.n_eq eLd_len (by decide)), (hI.rowCells 8 rfl r13), rfl, (by omega), (by omega), (by omega)⟩, (hI.rowCells 9 rfl r17), rfl, r17.cap, (by omega), (by omega), (by omega), (by omega)⟩ (withF_ok (scn_ok (hourI_ok h2).1 dy) bd00)) ?_)
       intro w hI
       refine pu (.bool false) (by kernel_rfl) (pu (.bool true) (by kernel_rfl) (seq_c (s_callv hI 112 [.bool ((stoodF (withF (scnF pl dy) h 0 0) (crtF pl dy)).2), .bool true] (iv (answerI ((stoodF (withF (scnF pl dy) h 0 0) (crtF pl dy)).2) true)) (by kernel_rfl) (answer_c ((stoodF (withF (scnF pl dy) h 0 0) (crtF pl dy)).2) true _) ?_)))
       intro w hI
       refine pu (iv (answerI ((stoodF (withF (scnF pl dy) h 0 0) (crtF pl dy)).2) true)) (by kernel_rfl) (pu (iv 0) (by kernel_rfl) (seq_nil (wp_ret ?_)))
       exact ⟨.tuple #[iv (answerI ((stoodF (withF (scnF pl dy) h 0 0) (crtF pl dy)).2) true), iv 0], Ret.r2 rfl rfl rfl, ⟨by simp [openC, h2, h3, h5, h21, h23], hI.below⟩⟩
  ·intro h26 w hI
   refine pu (.bool true) (by kernel_rfl) (seq_nil (wp_condT rfl (wp_seq (rgn (by kernel_rfl) (pu (iv 0) (by kernel_rfl) (pu (iv 14) (by kernel_rfl) (seq_nil (wp_ret ?_))))))))
   exact ⟨.tuple #[iv 0, iv 14], Ret.r2 rfl rfl rfl, ⟨by simp [openC, h2, h26], hI.below⟩⟩

end Go.K
