/- The law of a stand that is right: the walk. -/
import Derived.Test.YtinkdlmimiefaaaGreatProg
import Derived.Test.YtinkdlmimiefaaaGreatPG14
import Derived.Test.YtinkdlmimiefaaaGreatPM24
import Derived.Test.YtinkdlmimiefaaaGreatPM33
import Derived.Test.YtinkdlmimiefaaaGreatPXS
namespace Go.K
open Go.Proofs Go.RowKit
set_option linter.unusedVariables false
set_option linter.unusedSimpArgs false
set_option maxRecDepth 100000
attribute [local irreducible] Seq Step CallV AnyE opX

section steps
variable {P : Program} {ρ : Env} {w : World} {R : Value → World → Prop} {d : Option Nat} {ty : TypeId} {pos : String} {af : Array Edge} {gd : Option (Nat × Bool)}
theorem s_neqS7 {T Ty : TypeId} {x y : Operand} {a : Int} (ha : ev ρ x = .int .i64 a) (hb : ev ρ y = .int .i64 a) (k : R (.bool false) w) : Step P ⟨d, .binOp .neq T x y Ty, ty, pos, af, gd⟩ ρ w R :=
  s_neq ha hb (fun h => absurd rfl h) (fun _ => k)
end steps
theorem Row.big_7 {k : Nat} {g : Option Nat} {n c : Nat} {cl xs : List Value} (h : Row k g n c cl xs) : n ≤ 9223372036854775807 := Nat.le_trans h.cap (by have := h.capmax; unfold maxLen at this; omega)
theorem made_few7 (x0 x1 : Int) (ls ss ps : List A4) : (madeF x0 x1 ls ss ps).loads.length < 20 := by
  show (List.map Prod.fst (mLoads 0 20 (x0 % 200) (ls.take 6))).length < 20
  rw [List.length_map, mLoads_len, List.length_take]
  omega

set_option maxHeartbeats 3200000 in
theorem SheafNarrows_c (w0 : World) (q0 q1 : Int) (hq0 : -9223372036854775808 ≤ q0 ∧ q0 ≤ 9223372036854775807) (rA1 : Option Addr) (rn1 rc1 : Nat) (rA2 : Option Addr) (rn2 rc2 : Nat) (rA3 : Option Addr) (rn3 rc3 : Nat) (ls ss ps : List A4) (hC1 : Cells w0 rA1 (flat eA4 ls)) (hn1 : rn1 = ls.length) (hx1_ : rn1 ≤ 9223372036854775807) (hC2 : Cells w0 rA2 (flat eA4 ss)) (hn2 : rn2 = ss.length) (hx2_ : rn2 ≤ 9223372036854775807) (hC3 : Cells w0 rA3 (flat eA4 ps)) (hn3 : rn3 = ps.length) (hx3_ : rn3 ≤ 9223372036854775807) (hok_ls : ∀ r ∈ ls, A4Ok r) (hok_ss : ∀ r ∈ ss, A4Ok r) (n0 n1 n2 : Int) (hq1_ : -9223372036854775808 ≤ n1 ∧ n1 ≤ 9223372036854775807) : Does Tryz.prog 11 [.agg #[.int .i64 q0, .int .i64 q1, .slice rA1 rn1 rc1, .slice rA2 rn2 rc2, .slice rA3 rn3 rc3], .agg #[.int .i64 n0, .int .i64 n1, .int .i64 n2]] w0 fun v w => v = .bool true ∧ Below w0.heap.size w0 w := by
 refine calls_of (n := 194) Tryz.func11 rfl Tryz.ntmps11 rfl ?_
 have hI := Inv.start w0
 refine wp_seq (rgn (by kernel_rfl) (seq_c (s_boxI hI [iv q0, iv q1, .slice rA1 rn1 rc1, .slice rA2 rn2 rc2, .slice rA3 rn3 rc3] rfl ?_)))
 intro b1 w hI
 refine seq_c (s_boxI hI [iv n0, iv n1, iv n2] rfl ?_)
 intro b2 w hI
 refine pu (.bool false) (by kernel_rfl) (seq_nil (wp_seq (rgn (by kernel_rfl) (seq_c (s_callv hI 13 [] (.bool true) (by kernel_rfl) (sane_c _) ?_)))))
 intro w hI
 refine pu (.bool true) (by kernel_rfl) (seq_nil (wp_seq (rgn (by kernel_rfl) (seq_c (s_loadK hI 1 5 [iv q0, iv q1, .slice rA1 rn1 rc1, .slice rA2 rn2 rc2, .slice rA3 rn3 rc3] Tryz.isAgg78 Tryz.sizeOf78 rfl rfl rfl rfl ?_)))))
 obtain ⟨pm, hpm⟩ : ∃ z, z = madeF q0 q1 ls ss ps := ⟨_, rfl⟩
 obtain ⟨tk, htk⟩ : ∃ z, z = ((mLoads 0 20 (q0 % 200) (ls.take 6)).map Prod.snd) := ⟨_, rfl⟩
 obtain ⟨nf, hnf⟩ : ∃ z, z = numF (mLoads 0 20 (q0 % 200) (ls.take 6)) := ⟨_, rfl⟩
 have hTA : TrueAt (scnF pm 20) (crtF pm 20) (q0 % 200) tk nf := by rw [hpm, htk, hnf]; exact made_true_at q0 q1 ls ss ps
 have hv : plotB pm = true := by rw [hpm]; exact made_valid q0 q1 ls ss ps
 have hhour : hourI pm (15 + (n0 % 90)) 20 = 0 := by simp [hourI, hv, show isDayB 20 = true by decide, show isHourB (15 + (n0 % 90)) = true by simp [isHourB]; omega]
 have hn19 : pm.loads.length < 20 := by rw [hpm]; exact made_few7 q0 q1 ls ss ps
 obtain ⟨lf, hlf⟩ : ∃ z, z = leftF (crtF pm 20) nf (q0 % 200) (15 + (n0 % 90)) := ⟨_, rfl⟩
 have hlft : lf = thereF (mLoads 0 20 (q0 % 200) (ls.take 6)) (15 + (n0 % 90)) (q0 % 200) := by rw [hlf, hpm, hnf, made_crt]; exact leftF_there (made_lok q0 ls) (num_ok (made_lok q0 ls)) _
 have hlfb : 0 ≤ lf ∧ lf ≤ 200 := by have h1 := (made_lok q0 ls).there_bd (Int.emod_nonneg q0 (by decide)) (15 + (n0 % 90)); rw [hlft]; omega
 have hrt : Rt q0 ls ⟨99, 15 + (n0 % 90), if lf - n1 % 9 > 0 then lf - n1 % 9 else 0, lf + n1.tdiv 9 % 9, 0, 0⟩ := ⟨rfl, by simp only; omega, by simp only; split <;> omega, by simp only; rw [← hlft]; split <;> omega, by simp only; rw [← hlft]; omega, by simp only; omega, rfl, rfl⟩
 obtain ⟨qm, hqm⟩ : ∃ z, z = plusF pm ⟨99, 15 + (n0 % 90), if lf - n1 % 9 > 0 then lf - n1 % 9 else 0, lf + n1.tdiv 9 % 9, 0, 0⟩ := ⟨_, rfl⟩
 have hstd : standsF pm ⟨99, 15 + (n0 % 90), if lf - n1 % 9 > 0 then lf - n1 % 9 else 0, lf + n1.tdiv 9 % 9, 0, 0⟩ = (qm, 0) := by rw [hqm, hpm]; exact nar_stands q0 q1 ls ss ps hrt
 have hTB : TrueAt (scnF qm 20) (crtF qm 20) (q0 % 200) tk nf := by rw [hqm, hpm, htk, hnf]; exact nar_true q0 q1 ls ss ps hrt
 have hqv : plotB qm = true := by rw [hqm, hpm]; exact nar_valid q0 q1 ls ss ps hrt
 have hqday : dayI qm 20 = 0 := by simp [dayI, hqv, show isDayB 20 = true by decide]
 have hqn : qm.loads.length < 20 := by rw [hqm]; exact hn19
 have hN : Nar pm qm 20 (15 + (n2 % 130)) := by rw [hqm, hpm]; exact nar_nar q0 q1 ls ss ps hrt (by simp [isHourB]; omega)
 clear hqm hrt
 refine seq_c (s_callMade hI (q := pm) (t := q0 % 200) (l := tk) 57 [.agg #[iv q0, iv q1, .slice rA1 rn1 rc1, .slice rA2 rn2 rc2, .slice rA3 rn3 rc3], .bool true] (by kernel_rfl) (by rw [hpm, htk]; exact Made_c _ q0 q1 hq0 rA1 rn1 rc1 rA2 rn2 rc2 rA3 rn3 rc3 ls ss ps (hC1.inv0 hI) hn1 hx1_ (hC2.inv0 hI) hn2 hx2_ (hC3.inv0 hI) hn3 hx3_ hok_ls hok_ss) ?_)
 intro g3 c4 cl5 g7 c8 cl9 g11 c12 cl13 g15 c16 cl17 w hI r6 r10 r14 r18
 refine pu (.tuple #[.agg #[iv pm.lo, iv pm.hi, slv g3 pm.loads.length c4, slv g7 pm.stands.length c8, slv g11 pm.spells.length c12, iv pm.geese], .agg #[iv (q0 % 200), slv g15 tk.length c16]]) (by kernel_rfl) (pu (.agg #[iv pm.lo, iv pm.hi, slv g3 pm.loads.length c4, slv g7 pm.stands.length c8, slv g11 pm.spells.length c12, iv pm.geese]) (by kernel_rfl) (pu (.agg #[iv (q0 % 200), slv g15 tk.length c16]) (by kernel_rfl) (seq_c (s_allocI hI [iv 0, iv 0, .slice none 0 0, .slice none 0 0, .slice none 0 0, iv 0] Tryz.zeroValue28 rfl ?_))))
 intro b19 w hI
 refine seq_c (s_allocI hI [iv 0, .slice none 0 0] Tryz.zeroValue57 rfl ?_)
 intro b20 w hI
 refine seq_c (s_store hI 1 6 [iv pm.lo, iv pm.hi, slv g3 pm.loads.length c4, slv g7 pm.stands.length c8, slv g11 pm.spells.length c12, iv pm.geese] Tryz.sizeOf28 rfl rfl rfl rfl rfl (Nat.le_of_ble_eq_true rfl) ?_)
 intro w hI
 refine seq_c (s_store hI 0 2 [iv (q0 % 200), slv g15 tk.length c16] Tryz.sizeOf57 rfl rfl rfl rfl rfl (Nat.le_of_ble_eq_true rfl) ?_)
 intro w hI
 refine seq_nil (wp_seq (rgn (by kernel_rfl) (pu (.pointer (some ⟨b2, 0, none⟩)) (by kernel_rfl) (seq_c (s_load1 hI 6 (iv n0) Tryz.isAgg3 rfl rfl rfl ?_)))))
 refine seq_c (s_callv hI 58 [iv n0, iv 90] (iv (n0 % 90)) (by kernel_rfl) (ModC n0 90  (by omega) _) ?_)
 intro w hI
 refine seq_c (s_add rfl rfl (by omega) ?_)
 refine pu (iv (15 + (n0 % 90))) (by kernel_rfl) (seq_nil (wp_seq (rgn (by kernel_rfl) (pu (.pointer (some ⟨b2, 2, none⟩)) (by kernel_rfl) (seq_c (s_load1 hI 6 (iv n2) Tryz.isAgg3 rfl rfl rfl ?_))))))
 refine seq_c (s_callv hI 58 [iv n2, iv 130] (iv (n2 % 130)) (by kernel_rfl) (ModC n2 130  (by omega) _) ?_)
 intro w hI
 refine seq_c (s_add rfl rfl (by omega) ?_)
 refine pu (iv (15 + (n2 % 130))) (by kernel_rfl) (seq_nil (wp_seq (rgn (by kernel_rfl) (seq_c (s_loadK hI 1 6 [iv pm.lo, iv pm.hi, slv g3 pm.loads.length c4, slv g7 pm.stands.length c8, slv g11 pm.spells.length c12, iv pm.geese] Tryz.isAgg28 Tryz.sizeOf28 rfl rfl rfl rfl ?_)))))
 refine seq_c (s_loadK hI 0 2 [iv (q0 % 200), slv g15 tk.length c16] Tryz.isAgg57 Tryz.sizeOf57 rfl rfl rfl rfl ?_)
 refine pu (iv (15 + (n0 % 90))) (by kernel_rfl) (seq_c (s_callv hI 40 [.agg #[iv pm.lo, iv pm.hi, slv g3 pm.loads.length c4, slv g7 pm.stands.length c8, slv g11 pm.spells.length c12, iv pm.geese], .agg #[iv (q0 % 200), slv g15 tk.length c16], iv (15 + (n0 % 90)), iv 20] (.tuple #[iv lf, iv 0]) (by kernel_rfl) (by rw [hlf]; exact Left_c _ pm (g3.map fun b => ⟨b, 0, none⟩) pm.loads.length c4 (g7.map fun b => ⟨b, 0, none⟩) pm.stands.length c8 (g11.map fun b => ⟨b, 0, none⟩) pm.spells.length c12 ⟨(hI.rowCells 2 rfl r6), rfl, (hI.rowCells 3 rfl r10), rfl, (hI.rowCells 4 rfl r14), rfl, r6.big_7, r10.big_7, r14.big_7⟩ (15 + (n0 % 90)) 20 hn19 hhour (q0 % 200) (g15.map fun b => ⟨b, 0, none⟩) tk.length c16 tk (hI.rowCells 5 rfl r18) rfl nf hTA) ?_))
 intro w hI
 refine pu (.tuple #[iv lf, iv 0]) (by kernel_rfl) (pu (iv lf) (by kernel_rfl) (pu (iv 0) (by kernel_rfl) (pu (iv lf) (by kernel_rfl) (pu (iv 0) (by kernel_rfl) (seq_nil (wp_cut (fun ρ w => ∃ (b33 : Nat) (g21 : Option Nat) (c22 : Nat) (cl23 : List Value) (g25 : Option Nat) (c26 : Nat) (cl27 : List Value) (g29 : Option Nat) (c30 : Nat) (cl31 : List Value), Agree ρ [(5, .bool true), (6, .pointer (some ⟨b19, 0, none⟩)), (7, .pointer (some ⟨b20, 0, none⟩)), (9, iv (15 + (n2 % 130))), (11, iv 0), (12, .pointer (some ⟨b33, 0, none⟩)), (13, iv 0)] ∧ Inv none w0 w [(some b33, blk [iv qm.lo, iv qm.hi, slv g21 qm.loads.length c22, slv g25 qm.stands.length c26, slv g29 qm.spells.length c30, iv qm.geese] 28), (g21, blk cl23 30), (g25, blk cl27 31), (g29, blk cl31 33), (some b20, blk [iv (q0 % 200), slv g15 tk.length c16] 57), (some b19, blk [iv pm.lo, iv pm.hi, slv g3 pm.loads.length c4, slv g7 pm.stands.length c8, slv g11 pm.spells.length c12, iv pm.geese] 28), (g3, blk cl5 30), (g7, blk cl9 31), (g11, blk cl13 33), (g15, blk cl17 3), (some b2, blk [iv n0, iv n1, iv n2] 84), (some b1, blk [iv q0, iv q1, .slice rA1 rn1 rc1, .slice rA2 rn2 rc2, .slice rA3 rn3 rc3] 78)] ∧ (Row 6 g21 (qm.loads.length) c22 cl23 (flat eLd (qm.loads))) ∧ (Row 6 g25 (qm.stands.length) c26 cl27 (flat eLd (qm.stands))) ∧ (Row 6 g29 (qm.spells.length) c30 cl31 (flat eSp (qm.spells)))) ?_ ?_))))))
 ·
  refine wp_drawn2 hI [0, 1, 2, 3, 4, 5, 6, 7] (by decide) rfl (by kernel_rfl) (by kernel_rfl) ?_
  intro hsub
  refine al_light 0 (.agg #[iv pm.lo, iv pm.hi, slv g3 pm.loads.length c4, slv g7 pm.stands.length c8, slv g11 pm.spells.length c12, iv pm.geese]) hsub rfl (by kernel_rfl) (fun w hI => s_loadK hI 1 6 [iv pm.lo, iv pm.hi, slv g3 pm.loads.length c4, slv g7 pm.stands.length c8, slv g11 pm.spells.length c12, iv pm.geese] Tryz.isAgg28 Tryz.sizeOf28 rfl rfl rfl rfl ⟨rfl, Below.refl _ _⟩) ?_
  refine alp 1 (iv (15 + (n0 % 90))) hsub rfl (by kernel_rfl) (fun _ => (by kernel_rfl)) ?_
  refine alp 2 (iv lf) hsub rfl (by kernel_rfl) (fun _ => (by kernel_rfl)) ?_
  refine alp 3 (.pointer (some ⟨b2, 1, none⟩)) hsub rfl (by kernel_rfl) (fun _ => (by kernel_rfl)) ?_
  refine al_light 4 (iv n1) hsub rfl (by kernel_rfl) (fun w hI => s_load1 hI 6 (iv n1) Tryz.isAgg3 rfl rfl rfl ⟨rfl, Below.refl _ _⟩) ?_
  refine al_light 5 (iv (n1 % 9)) hsub rfl (by kernel_rfl) (fun w hI => s_call 58 [iv n1, iv 9] (by kernel_rfl) (ModC n1 9  (by omega) _) (fun v' w' h => h)) ?_
  refine al_light 6 (iv (lf - (n1 % 9))) hsub rfl (by kernel_rfl) (fun w hI => s_sub rfl rfl (by omega) ⟨rfl, Below.refl _ _⟩) ?_
  refine alp 7 (iv (if (lf - (n1 % 9)) > 0 then (lf - (n1 % 9)) else 0)) hsub rfl (by kernel_rfl) (fun _ => (by kernel_rfl)) ?_
  refine alp 8 (iv lf) hsub rfl (by kernel_rfl) (fun _ => (by kernel_rfl)) ?_
  refine alp 9 (.pointer (some ⟨b2, 1, none⟩)) hsub rfl (by kernel_rfl) (fun _ => (by kernel_rfl)) ?_
  refine al_light 10 (iv n1) hsub rfl (by kernel_rfl) (fun w hI => s_load1 hI 6 (iv n1) Tryz.isAgg3 rfl rfl rfl ⟨rfl, Below.refl _ _⟩) ?_
  refine al_light 11 (iv (n1.tdiv 9)) hsub rfl (by kernel_rfl) (fun w hI => s_quo rfl rfl (by decide) hq1_ ⟨rfl, Below.refl _ _⟩) ?_
  refine al_light 12 (iv ((n1.tdiv 9) % 9)) hsub rfl (by kernel_rfl) (fun w hI => s_call 58 [iv (n1.tdiv 9), iv 9] (by kernel_rfl) (ModC (n1.tdiv 9) 9  (by omega) _) (fun v' w' h => h)) ?_
  refine al_light 13 (iv (lf + ((n1.tdiv 9) % 9))) hsub rfl (by kernel_rfl) (fun w hI => s_add rfl rfl (by omega) ⟨rfl, Below.refl _ _⟩) ?_
  refine alp 14 (.agg #[iv (if (lf - (n1 % 9)) > 0 then (lf - (n1 % 9)) else 0), iv (lf + ((n1.tdiv 9) % 9))]) hsub rfl (by kernel_rfl) (fun _ => (by kernel_rfl)) ?_
  refine alp 15 (.agg #[iv 99, iv (15 + (n0 % 90)), iv (if (lf - (n1 % 9)) > 0 then (lf - (n1 % 9)) else 0), iv (lf + ((n1.tdiv 9) % 9)), iv 0, iv 0]) hsub rfl (by kernel_rfl) (fun _ => (by kernel_rfl)) ?_
  refine any_heavy [16, 20] (by kernel_rfl) rfl (each2 ?_ ?_)
  ·intro w hI
   refine ol_c rfl (s_callPlotT hI (q := qm) (x := iv 0) 14 [.agg #[iv pm.lo, iv pm.hi, slv g3 pm.loads.length c4, slv g7 pm.stands.length c8, slv g11 pm.spells.length c12, iv pm.geese], .agg #[iv 99, iv (15 + (n0 % 90)), iv (if (lf - (n1 % 9)) > 0 then (lf - (n1 % 9)) else 0), iv (lf + ((n1.tdiv 9) % 9)), iv 0, iv 0]] (by kernel_rfl) (Does.mono (Stands_c _ pm (g3.map fun b => ⟨b, 0, none⟩) pm.loads.length c4 (g7.map fun b => ⟨b, 0, none⟩) pm.stands.length c8 (g11.map fun b => ⟨b, 0, none⟩) pm.spells.length c12 ⟨(hI.rowCells 2 rfl r6), rfl, (hI.rowCells 3 rfl r10), rfl, (hI.rowCells 4 rfl r14), rfl, r6.big_7, r10.big_7, r14.big_7⟩ ⟨99, 15 + (n0 % 90), if lf - n1 % 9 > 0 then lf - n1 % 9 else 0, lf + n1.tdiv 9 % 9, 0, 0⟩) (fun v w' ⟨v1, e1, e2⟩ => ⟨v1, by rw [e1, hstd], by rw [hstd] at e2; exact e2⟩)) ?_)
   intro g21 c22 cl23 g25 c26 cl27 g29 c30 cl31 w hI r24 r28 r32
   refine ⟨_, hI, subk (fun _ h => h.pickL [3, 4, 5, 6, 7, 8, 9, 10] (by decide) rfl) ?_⟩
   intro hsub
   refine alp 17 (.tuple #[.agg #[iv qm.lo, iv qm.hi, slv g21 qm.loads.length c22, slv g25 qm.stands.length c26, slv g29 qm.spells.length c30, iv qm.geese], iv 0]) hsub rfl (by kernel_rfl) (fun _ => (by kernel_rfl)) ?_
   refine alp 18 (.agg #[iv qm.lo, iv qm.hi, slv g21 qm.loads.length c22, slv g25 qm.stands.length c26, slv g29 qm.spells.length c30, iv qm.geese]) hsub rfl (by kernel_rfl) (fun _ => (by kernel_rfl)) ?_
   refine alp 19 (iv 0) hsub rfl (by kernel_rfl) (fun _ => (by kernel_rfl)) ?_
   refine any_heavy [20] (by kernel_rfl) rfl (each1 ?_)
   intro w hI
   refine ol_c rfl (s_allocI hI [iv 0, iv 0, .slice none 0 0, .slice none 0 0, .slice none 0 0, iv 0] Tryz.zeroValue28 rfl ?_)
   intro b33 w hI
   refine ⟨_, hI, subk (fun _ h => h.pickL [4, 5, 6, 7, 8, 9, 10, 11] (by decide) rfl) ?_⟩
   intro hsub
   refine any_heavy [21] (by kernel_rfl) rfl (each1 ?_)
   intro w hI
   refine ol_c rfl (s_store hI 0 6 [iv qm.lo, iv qm.hi, slv g21 qm.loads.length c22, slv g25 qm.stands.length c26, slv g29 qm.spells.length c30, iv qm.geese] Tryz.sizeOf28 rfl rfl rfl rfl rfl (Nat.le_of_ble_eq_true rfl) ?_)
   intro w hI
   refine ⟨_, hI, subk (fun _ h => h.pickL [4, 5, 6, 7, 8, 9, 10, 11] (by decide) rfl) ?_⟩
   intro hsub
   refine alp 22 (iv 0) hsub rfl (by kernel_rfl) (fun _ => (by kernel_rfl)) ?_
   refine any_end (by kernel_rfl) (fun w hI => ?_)
   exact ⟨rfl, b33, g21, c22, cl23, g25, c26, cl27, g29, c30, cl31, ⟨rfl, rfl, rfl, rfl, rfl, rfl, rfl, trivial⟩, hI.pickL [0, 1, 2, 3, 4, 5, 6, 7, 8, 9, 10, 11] (by decide) rfl, r24, r28, r32⟩
  ·intro w hI
   refine ol_c rfl (s_allocI hI [iv 0, iv 0, .slice none 0 0, .slice none 0 0, .slice none 0 0, iv 0] Tryz.zeroValue28 rfl ?_)
   intro b34 w hI
   refine ⟨_, hI, subk (fun _ h => h.pickL [1, 2, 3, 4, 5, 6, 7, 8] (by decide) rfl) ?_⟩
   intro hsub
   refine any_heavy [16] (by kernel_rfl) rfl (each1 ?_)
   intro w hI
   refine ol_c rfl (s_callPlotT hI (q := qm) (x := iv 0) 14 [.agg #[iv pm.lo, iv pm.hi, slv g3 pm.loads.length c4, slv g7 pm.stands.length c8, slv g11 pm.spells.length c12, iv pm.geese], .agg #[iv 99, iv (15 + (n0 % 90)), iv (if (lf - (n1 % 9)) > 0 then (lf - (n1 % 9)) else 0), iv (lf + ((n1.tdiv 9) % 9)), iv 0, iv 0]] (by kernel_rfl) (Does.mono (Stands_c _ pm (g3.map fun b => ⟨b, 0, none⟩) pm.loads.length c4 (g7.map fun b => ⟨b, 0, none⟩) pm.stands.length c8 (g11.map fun b => ⟨b, 0, none⟩) pm.spells.length c12 ⟨(hI.rowCells 3 rfl r6), rfl, (hI.rowCells 4 rfl r10), rfl, (hI.rowCells 5 rfl r14), rfl, r6.big_7, r10.big_7, r14.big_7⟩ ⟨99, 15 + (n0 % 90), if lf - n1 % 9 > 0 then lf - n1 % 9 else 0, lf + n1.tdiv 9 % 9, 0, 0⟩) (fun v w' ⟨v1, e1, e2⟩ => ⟨v1, by rw [e1, hstd], by rw [hstd] at e2; exact e2⟩)) ?_)
   intro g35 c36 cl37 g39 c40 cl41 g43 c44 cl45 w hI r38 r42 r46
   refine ⟨_, hI, subk (fun _ h => h.pickL [4, 5, 6, 7, 8, 9, 10, 11] (by decide) rfl) ?_⟩
   intro hsub
   refine alp 17 (.tuple #[.agg #[iv qm.lo, iv qm.hi, slv g35 qm.loads.length c36, slv g39 qm.stands.length c40, slv g43 qm.spells.length c44, iv qm.geese], iv 0]) hsub rfl (by kernel_rfl) (fun _ => (by kernel_rfl)) ?_
   refine alp 18 (.agg #[iv qm.lo, iv qm.hi, slv g35 qm.loads.length c36, slv g39 qm.stands.length c40, slv g43 qm.spells.length c44, iv qm.geese]) hsub rfl (by kernel_rfl) (fun _ => (by kernel_rfl)) ?_
   refine alp 19 (iv 0) hsub rfl (by kernel_rfl) (fun _ => (by kernel_rfl)) ?_
   refine any_heavy [21] (by kernel_rfl) rfl (each1 ?_)
   intro w hI
   refine ol_c rfl (s_store hI 3 6 [iv qm.lo, iv qm.hi, slv g35 qm.loads.length c36, slv g39 qm.stands.length c40, slv g43 qm.spells.length c44, iv qm.geese] Tryz.sizeOf28 rfl rfl rfl rfl rfl (Nat.le_of_ble_eq_true rfl) ?_)
   intro w hI
   refine ⟨_, hI, subk (fun _ h => h.pickL [4, 5, 6, 7, 8, 9, 10, 11] (by decide) rfl) ?_⟩
   intro hsub
   refine alp 22 (iv 0) hsub rfl (by kernel_rfl) (fun _ => (by kernel_rfl)) ?_
   refine any_end (by kernel_rfl) (fun w hI => ?_)
   exact ⟨rfl, b34, g35, c36, cl37, g39, c40, cl41, g43, c44, cl45, ⟨rfl, rfl, rfl, rfl, rfl, rfl, rfl, trivial⟩, hI.pickL [3, 0, 1, 2, 4, 5, 6, 7, 8, 9, 10, 11] (by decide) rfl, r38, r42, r46⟩
 ·rintro ρ w ⟨b33, g21, c22, cl23, g25, c26, cl27, g29, c30, cl31, hag, hI, r24, r28, r32⟩
  obtain ⟨ρ, rfl⟩ := hag.form; clear hag
  refine wp_seq (wp_seq (rgn (by kernel_rfl) (pu (.bool true) (by kernel_rfl) (pu (.bool false) (by kernel_rfl) (pu (.bool false) (by kernel_rfl) (puo (iv 0) ⟨(by kernel_rfl), (by kernel_rfl)⟩ (seq_on (by kernel_rfl) (s_neqS7 rfl rfl ?_))))))))
  refine pu (.bool false) (by kernel_rfl) (pu (.bool false) (by kernel_rfl) (puo (iv 0) ⟨(by kernel_rfl), (by kernel_rfl)⟩ (seq_on (by kernel_rfl) (s_neqS7 rfl rfl ?_))))
  refine pu (.bool false) (by kernel_rfl) (pu (.bool false) (by kernel_rfl) (seq_on (by kernel_rfl) (s_loadK hI 0 6 [iv qm.lo, iv qm.hi, slv g21 qm.loads.length c22, slv g25 qm.stands.length c26, slv g29 qm.spells.length c30, iv qm.geese] Tryz.isAgg28 Tryz.sizeOf28 rfl rfl rfl rfl ?_)))
  refine seq_on (by kernel_rfl) (s_loadK hI 4 2 [iv (q0 % 200), slv g15 tk.length c16] Tryz.isAgg57 Tryz.sizeOf57 rfl rfl rfl rfl ?_)
  refine seq_on (by kernel_rfl) (s_callv hI 42 [.agg #[iv qm.lo, iv qm.hi, slv g21 qm.loads.length c22, slv g25 qm.stands.length c26, slv g29 qm.spells.length c30, iv qm.geese], iv 20, .agg #[iv (q0 % 200), slv g15 tk.length c16]] (iv 0) (by kernel_rfl) (CheckCarting_c _ qm (g21.map fun b => ⟨b, 0, none⟩) qm.loads.length c22 (g25.map fun b => ⟨b, 0, none⟩) qm.stands.length c26 (g29.map fun b => ⟨b, 0, none⟩) qm.spells.length c30 ⟨(hI.rowCells 1 rfl r24), rfl, (hI.rowCells 2 rfl r28), rfl, (hI.rowCells 3 rfl r32), rfl, r24.big_7, r28.big_7, r32.big_7⟩ 20 hqn hqday (q0 % 200) (g15.map fun b => ⟨b, 0, none⟩) tk.length c16 tk (hI.rowCells 9 rfl r18) rfl nf hTB) ?_)
  intro w hI
  refine seq_on (by kernel_rfl) (s_neqS7 rfl rfl ?_)
  refine pu (.bool false) (by kernel_rfl) (seq_nil (wp_condF rfl (wp_skip (wp_seq (rgn (by kernel_rfl) (seq_c (s_loadK hI 5 6 [iv pm.lo, iv pm.hi, slv g3 pm.loads.length c4, slv g7 pm.stands.length c8, slv g11 pm.spells.length c12, iv pm.geese] Tryz.isAgg28 Tryz.sizeOf28 rfl rfl rfl rfl ?_)))))))
  refine pu (iv (15 + (n2 % 130))) (by kernel_rfl) (seq_c (s_callv hI 36 [.agg #[iv pm.lo, iv pm.hi, slv g3 pm.loads.length c4, slv g7 pm.stands.length c8, slv g11 pm.spells.length c12, iv pm.geese], iv (15 + (n2 % 130)), iv 20] (.tuple #[.agg #[iv ((stoodC pm (15 + (n2 % 130)) 20).1.lo), iv ((stoodC pm (15 + (n2 % 130)) 20).1.hi)], iv ((stoodC pm (15 + (n2 % 130)) 20).2)]) (by kernel_rfl) (Stood_c _ pm (g3.map fun b => ⟨b, 0, none⟩) pm.loads.length c4 (g7.map fun b => ⟨b, 0, none⟩) pm.stands.length c8 (g11.map fun b => ⟨b, 0, none⟩) pm.spells.length c12 ⟨(hI.rowCells 6 rfl r6), rfl, (hI.rowCells 7 rfl r10), rfl, (hI.rowCells 8 rfl r14), rfl, r6.big_7, r10.big_7, r14.big_7⟩ (15 + (n2 % 130)) 20 hn19) ?_))
  intro w hI
  refine pu (.tuple #[.agg #[iv ((stoodC pm (15 + (n2 % 130)) 20).1.lo), iv ((stoodC pm (15 + (n2 % 130)) 20).1.hi)], iv ((stoodC pm (15 + (n2 % 130)) 20).2)]) (by kernel_rfl) (pu (.agg #[iv ((stoodC pm (15 + (n2 % 130)) 20).1.lo), iv ((stoodC pm (15 + (n2 % 130)) 20).1.hi)]) (by kernel_rfl) (pu (iv ((stoodC pm (15 + (n2 % 130)) 20).2)) (by kernel_rfl) (seq_c (s_allocI hI [iv 0, iv 0] Tryz.zeroValue23 rfl ?_))))
  intro b47 w hI
  refine seq_c (s_store hI 0 2 [iv ((stoodC pm (15 + (n2 % 130)) 20).1.lo), iv ((stoodC pm (15 + (n2 % 130)) 20).1.hi)] Tryz.sizeOf23 rfl rfl rfl rfl rfl (Nat.le_of_ble_eq_true rfl) ?_)
  intro w hI
  refine pu (iv ((stoodC pm (15 + (n2 % 130)) 20).2)) (by kernel_rfl) (seq_nil (wp_seq (rgn (by kernel_rfl) (seq_c (s_loadK hI 1 6 [iv qm.lo, iv qm.hi, slv g21 qm.loads.length c22, slv g25 qm.stands.length c26, slv g29 qm.spells.length c30, iv qm.geese] Tryz.isAgg28 Tryz.sizeOf28 rfl rfl rfl rfl ?_)))))
  refine pu (iv (15 + (n2 % 130))) (by kernel_rfl) (seq_c (s_callv hI 36 [.agg #[iv qm.lo, iv qm.hi, slv g21 qm.loads.length c22, slv g25 qm.stands.length c26, slv g29 qm.spells.length c30, iv qm.geese], iv (15 + (n2 % 130)), iv 20] (.tuple #[.agg #[iv ((stoodC qm (15 + (n2 % 130)) 20).1.lo), iv ((stoodC qm (15 + (n2 % 130)) 20).1.hi)], iv ((stoodC qm (15 + (n2 % 130)) 20).2)]) (by kernel_rfl) (Stood_c _ qm (g21.map fun b => ⟨b, 0, none⟩) qm.loads.length c22 (g25.map fun b => ⟨b, 0, none⟩) qm.stands.length c26 (g29.map fun b => ⟨b, 0, none⟩) qm.spells.length c30 ⟨(hI.rowCells 2 rfl r24), rfl, (hI.rowCells 3 rfl r28), rfl, (hI.rowCells 4 rfl r32), rfl, r24.big_7, r28.big_7, r32.big_7⟩ (15 + (n2 % 130)) 20 hqn) ?_))
  intro w hI
  refine pu (.tuple #[.agg #[iv ((stoodC qm (15 + (n2 % 130)) 20).1.lo), iv ((stoodC qm (15 + (n2 % 130)) 20).1.hi)], iv ((stoodC qm (15 + (n2 % 130)) 20).2)]) (by kernel_rfl) (pu (.agg #[iv ((stoodC qm (15 + (n2 % 130)) 20).1.lo), iv ((stoodC qm (15 + (n2 % 130)) 20).1.hi)]) (by kernel_rfl) (pu (iv ((stoodC qm (15 + (n2 % 130)) 20).2)) (by kernel_rfl) (seq_c (s_allocI hI [iv 0, iv 0] Tryz.zeroValue23 rfl ?_))))
  intro b48 w hI
  refine seq_c (s_store hI 0 2 [iv ((stoodC qm (15 + (n2 % 130)) 20).1.lo), iv ((stoodC qm (15 + (n2 % 130)) 20).1.hi)] Tryz.sizeOf23 rfl rfl rfl rfl rfl (Nat.le_of_ble_eq_true rfl) ?_)
  intro w hI
  refine pu (iv ((stoodC qm (15 + (n2 % 130)) 20).2)) (by kernel_rfl) (seq_nil (wp_seq (rgn (by kernel_rfl) (seq_c (s_loadK hI 7 6 [iv pm.lo, iv pm.hi, slv g3 pm.loads.length c4, slv g7 pm.stands.length c8, slv g11 pm.spells.length c12, iv pm.geese] Tryz.isAgg28 Tryz.sizeOf28 rfl rfl rfl rfl ?_)))))
  refine pu (iv (15 + (n2 % 130))) (by kernel_rfl) (seq_c (s_callv hI 51 [.agg #[iv pm.lo, iv pm.hi, slv g3 pm.loads.length c4, slv g7 pm.stands.length c8, slv g11 pm.spells.length c12, iv pm.geese], iv (15 + (n2 % 130)), iv 20] (.tuple #[iv ((openC pm (15 + (n2 % 130)) 20).1), iv ((openC pm (15 + (n2 % 130)) 20).2)]) (by kernel_rfl) (Open_c _ pm (g3.map fun b => ⟨b, 0, none⟩) pm.loads.length c4 (g7.map fun b => ⟨b, 0, none⟩) pm.stands.length c8 (g11.map fun b => ⟨b, 0, none⟩) pm.spells.length c12 ⟨(hI.rowCells 8 rfl r6), rfl, (hI.rowCells 9 rfl r10), rfl, (hI.rowCells 10 rfl r14), rfl, r6.big_7, r10.big_7, r14.big_7⟩ (15 + (n2 % 130)) 20 hn19) ?_))
  intro w hI
  refine pu (.tuple #[iv ((openC pm (15 + (n2 % 130)) 20).1), iv ((openC pm (15 + (n2 % 130)) 20).2)]) (by kernel_rfl) (pu (iv ((openC pm (15 + (n2 % 130)) 20).1)) (by kernel_rfl) (pu (iv ((openC pm (15 + (n2 % 130)) 20).2)) (by kernel_rfl) (pu (iv ((openC pm (15 + (n2 % 130)) 20).1)) (by kernel_rfl) (pu (iv ((openC pm (15 + (n2 % 130)) 20).2)) (by kernel_rfl) (seq_nil (wp_seq (rgn (by kernel_rfl) (seq_c (s_loadK hI 2 6 [iv qm.lo, iv qm.hi, slv g21 qm.loads.length c22, slv g25 qm.stands.length c26, slv g29 qm.spells.length c30, iv qm.geese] Tryz.isAgg28 Tryz.sizeOf28 rfl rfl rfl rfl ?_)))))))))
  refine pu (iv (15 + (n2 % 130))) (by kernel_rfl) (seq_c (s_callv hI 51 [.agg #[iv qm.lo, iv qm.hi, slv g21 qm.loads.length c22, slv g25 qm.stands.length c26, slv g29 qm.spells.length c30, iv qm.geese], iv (15 + (n2 % 130)), iv 20] (.tuple #[iv ((openC qm (15 + (n2 % 130)) 20).1), iv ((openC qm (15 + (n2 % 130)) 20).2)]) (by kernel_rfl) (Open_c _ qm (g21.map fun b => ⟨b, 0, none⟩) qm.loads.length c22 (g25.map fun b => ⟨b, 0, none⟩) qm.stands.length c26 (g29.map fun b => ⟨b, 0, none⟩) qm.spells.length c30 ⟨(hI.rowCells 3 rfl r24), rfl, (hI.rowCells 4 rfl r28), rfl, (hI.rowCells 5 rfl r32), rfl, r24.big_7, r28.big_7, r32.big_7⟩ (15 + (n2 % 130)) 20 hqn) ?_))
  intro w hI
  refine pu (.tuple #[iv ((openC qm (15 + (n2 % 130)) 20).1), iv ((openC qm (15 + (n2 % 130)) 20).2)]) (by kernel_rfl) (pu (iv ((openC qm (15 + (n2 % 130)) 20).1)) (by kernel_rfl) (pu (iv ((openC qm (15 + (n2 % 130)) 20).2)) (by kernel_rfl) (pu (iv ((openC qm (15 + (n2 % 130)) 20).1)) (by kernel_rfl) (pu (iv ((openC qm (15 + (n2 % 130)) 20).2)) (by kernel_rfl) (seq_nil (wp_seq (wp_cut (fun ρ w => Agree ρ [(6, .pointer (some ⟨b19, 0, none⟩)), (12, .pointer (some ⟨b33, 0, none⟩)), (144, .bool false)] ∧ Inv none w0 w [(some b48, blk [iv ((stoodC qm (15 + (n2 % 130)) 20).1.lo), iv ((stoodC qm (15 + (n2 % 130)) 20).1.hi)] 23), (some b47, blk [iv ((stoodC pm (15 + (n2 % 130)) 20).1.lo), iv ((stoodC pm (15 + (n2 % 130)) 20).1.hi)] 23), (some b33, blk [iv qm.lo, iv qm.hi, slv g21 qm.loads.length c22, slv g25 qm.stands.length c26, slv g29 qm.spells.length c30, iv qm.geese] 28), (g21, blk cl23 30), (g25, blk cl27 31), (g29, blk cl31 33), (some b20, blk [iv (q0 % 200), slv g15 tk.length c16] 57), (some b19, blk [iv pm.lo, iv pm.hi, slv g3 pm.loads.length c4, slv g7 pm.stands.length c8, slv g11 pm.spells.length c12, iv pm.geese] 28), (g3, blk cl5 30), (g7, blk cl9 31), (g11, blk cl13 33), (g15, blk cl17 3), (some b2, blk [iv n0, iv n1, iv n2] 84), (some b1, blk [iv q0, iv q1, .slice rA1 rn1 rc1, .slice rA2 rn2 rc2, .slice rA3 rn3 rc3] 78)]) ?_ ?_)))))))
  ·
   refine rgn (by kernel_rfl) (pu (iv ((stoodC pm (15 + (n2 % 130)) 20).2)) (by kernel_rfl) (seq_c (s_neq rfl rfl ?_ ?_)))
   ·intro h1
    exact absurd h1 (not_not_intro hN.s1)
   ·intro h2
    refine pu (.bool false) (by kernel_rfl) (puo (iv ((stoodC qm (15 + (n2 % 130)) 20).2)) ⟨(by kernel_rfl), (by kernel_rfl)⟩ (seq_on (by kernel_rfl) (s_neq rfl rfl ?_ ?_)))
    ·intro h3
     exact absurd h3 (not_not_intro hN.s2)
    ·intro h4
     refine pu (.bool false) (by kernel_rfl) (pu (.bool false) (by kernel_rfl) (puo (iv ((openC pm (15 + (n2 % 130)) 20).2)) ⟨(by kernel_rfl), (by kernel_rfl)⟩ (seq_on (by kernel_rfl) (s_neq rfl rfl ?_ ?_))))
     ·intro h5
      exact absurd h5 (not_not_intro hN.o1)
     ·intro h6
      refine pu (.bool false) (by kernel_rfl) (pu (.bool false) (by kernel_rfl) (puo (iv ((openC qm (15 + (n2 % 130)) 20).2)) ⟨(by kernel_rfl), (by kernel_rfl)⟩ (seq_on (by kernel_rfl) (s_neq rfl rfl ?_ ?_))))
      ·intro h7
       exact absurd h7 (not_not_intro hN.o2)
      ·intro h8
       refine pu (.bool false) (by kernel_rfl) (pu (.bool false) (by kernel_rfl) (puo (.pointer (some ⟨b48, 0, none⟩)) ⟨(by kernel_rfl), (by kernel_rfl)⟩ (seq_on (by kernel_rfl) (s_load1 hI 0 (iv ((stoodC qm (15 + (n2 % 130)) 20).1.lo)) Tryz.isAgg3 rfl rfl rfl ?_))))
       refine puo (.pointer (some ⟨b47, 0, none⟩)) ⟨(by kernel_rfl), (by kernel_rfl)⟩ (seq_on (by kernel_rfl) (s_load1 hI 1 (iv ((stoodC pm (15 + (n2 % 130)) 20).1.lo)) Tryz.isAgg3 rfl rfl rfl ?_))
       refine seq_on (by kernel_rfl) (s_lss rfl rfl ?_ ?_)
       ·intro h9
        exact absurd h9 hN.lo
       ·intro h10
        refine pu (.bool false) (by kernel_rfl) (pu (.bool false) (by kernel_rfl) (puo (.pointer (some ⟨b48, 1, none⟩)) ⟨(by kernel_rfl), (by kernel_rfl)⟩ (seq_on (by kernel_rfl) (s_load1 hI 0 (iv ((stoodC qm (15 + (n2 % 130)) 20).1.hi)) Tryz.isAgg3 rfl rfl rfl ?_))))
        refine puo (.pointer (some ⟨b47, 1, none⟩)) ⟨(by kernel_rfl), (by kernel_rfl)⟩ (seq_on (by kernel_rfl) (s_load1 hI 1 (iv ((stoodC pm (15 + (n2 % 130)) 20).1.hi)) Tryz.isAgg3 rfl rfl rfl ?_))
        refine seq_on (by kernel_rfl) (s_gtr rfl rfl ?_ ?_)
        ·intro h11
         exact absurd h11 hN.hi
        ·intro h12
         refine pu (.bool false) (by kernel_rfl) (pu (.bool false) (by kernel_rfl) (puo (iv ((openC pm (15 + (n2 % 130)) 20).1)) ⟨(by kernel_rfl), (by kernel_rfl)⟩ (seq_on (by kernel_rfl) (s_neq rfl rfl ?_ ?_))))
         ·intro h13
          refine puo (.bool true) ⟨(by kernel_rfl), (by kernel_rfl)⟩ (puo (iv ((openC pm (15 + (n2 % 130)) 20).1)) ⟨(by kernel_rfl), (by kernel_rfl)⟩ (puo (iv ((openC qm (15 + (n2 % 130)) 20).1)) ⟨(by kernel_rfl), (by kernel_rfl)⟩ (seq_on (by kernel_rfl) (s_neq rfl rfl ?_ ?_))))
          ·intro h14
           exact absurd h14 (not_not_intro (hN.op h13))
          ·intro h15
           refine puo (.bool false) ⟨(by kernel_rfl), (by kernel_rfl)⟩ (pu (.bool false) (by kernel_rfl) (seq_nil ?_))
           exact ⟨rfl, ⟨rfl, rfl, rfl, trivial⟩, hI.pickL [0, 1, 2, 3, 4, 5, 6, 7, 8, 9, 10, 11, 12, 13] (by decide) rfl⟩
         ·intro h16
          refine puo (.bool false) ⟨(by kernel_rfl), (by kernel_rfl)⟩ (of_ (by kernel_rfl) (of_ (by kernel_rfl) (of_ (by kernel_rfl) (puo (.bool false) ⟨(by kernel_rfl), (by kernel_rfl)⟩ (pu (.bool false) (by kernel_rfl) (seq_nil ?_))))))
          exact ⟨rfl, ⟨rfl, rfl, rfl, trivial⟩, hI.pickL [0, 1, 2, 3, 4, 5, 6, 7, 8, 9, 10, 11, 12, 13] (by decide) rfl⟩
  ·rintro ρ w ⟨hag, hI⟩
   obtain ⟨ρ, rfl⟩ := hag.form; clear hag
   refine wp_condF rfl (wp_skip (wp_seq (wp_seq (rgn (by kernel_rfl) (pu (iv 0) (by kernel_rfl) (seq_nil (wp_block ?_)))))))
   refine wp_loop (fun m ρ w => ∃ (k : Nat), Agree ρ [(6, .pointer (some ⟨b19, 0, none⟩)), (12, .pointer (some ⟨b33, 0, none⟩)), (22, iv (k : Int))] ∧ Inv none w0 w [(some b48, blk [iv ((stoodC qm (15 + (n2 % 130)) 20).1.lo), iv ((stoodC qm (15 + (n2 % 130)) 20).1.hi)] 23), (some b47, blk [iv ((stoodC pm (15 + (n2 % 130)) 20).1.lo), iv ((stoodC pm (15 + (n2 % 130)) 20).1.hi)] 23), (some b33, blk [iv qm.lo, iv qm.hi, slv g21 qm.loads.length c22, slv g25 qm.stands.length c26, slv g29 qm.spells.length c30, iv qm.geese] 28), (g21, blk cl23 30), (g25, blk cl27 31), (g29, blk cl31 33), (some b20, blk [iv (q0 % 200), slv g15 tk.length c16] 57), (some b19, blk [iv pm.lo, iv pm.hi, slv g3 pm.loads.length c4, slv g7 pm.stands.length c8, slv g11 pm.spells.length c12, iv pm.geese] 28), (g3, blk cl5 30), (g7, blk cl9 31), (g11, blk cl13 33), (g15, blk cl17 3), (some b2, blk [iv n0, iv n1, iv n2] 84), (some b1, blk [iv q0, iv q1, .slice rA1 rn1 rc1, .slice rA2 rn2 rc2, .slice rA3 rn3 rc3] 78)] ∧ (k ≤ pm.loads.length) ∧ m = pm.loads.length - k) (m := pm.loads.length - 0) ⟨0, ⟨rfl, rfl, rfl, trivial⟩, hI.pickL [0, 1, 2, 3, 4, 5, 6, 7, 8, 9, 10, 11, 12, 13] (by decide) rfl, (by omega), rfl⟩ ?_
   rintro m ρ w ⟨k, hag, hI, hk, hm⟩
   obtain ⟨ρ, rfl⟩ := hag.form; clear hag
   refine wp_seq (wp_seq (rgn (by kernel_rfl) (pu (iv (k : Int)) (by kernel_rfl) (pu (.pointer (some ⟨b19, 2, none⟩)) (by kernel_rfl) (seq_c (s_load1 hI 7 (slv g3 pm.loads.length c4) Tryz.isAgg24 rfl rfl rfl ?_))))))
   refine pu (iv ((pm.loads.length : Nat) : Int)) (by kernel_rfl) (seq_c (s_lss rfl rfl ?_ ?_))
   ·intro h17
    refine seq_nil (wp_condT rfl (wp_skip (wp_seq (wp_block ?_))))
    obtain ⟨x49, hx50⟩ := get_lt (l := pm.loads) (i := k) (by omega)
    obtain ⟨b51, rfl, he52⟩ := r6.at_ eLd_len (by decide) hx50
    refine wp_cut (fun ρ w => ∃ (b53 : Nat), Agree ρ [(6, .pointer (some ⟨b19, 0, none⟩)), (12, .pointer (some ⟨b33, 0, none⟩)), (22, iv (k : Int)), (23, .pointer (some ⟨b53, 0, none⟩)), (24, iv ((cartedC pm x49.src 20).2))] ∧ Inv none w0 w [(some b53, blk [iv ((cartedC pm x49.src 20).1.lo), iv ((cartedC pm x49.src 20).1.hi)] 23), (some b48, blk [iv ((stoodC qm (15 + (n2 % 130)) 20).1.lo), iv ((stoodC qm (15 + (n2 % 130)) 20).1.hi)] 23), (some b47, blk [iv ((stoodC pm (15 + (n2 % 130)) 20).1.lo), iv ((stoodC pm (15 + (n2 % 130)) 20).1.hi)] 23), (some b33, blk [iv qm.lo, iv qm.hi, slv g21 qm.loads.length c22, slv g25 qm.stands.length c26, slv g29 qm.spells.length c30, iv qm.geese] 28), (g21, blk cl23 30), (g25, blk cl27 31), (g29, blk cl31 33), (some b20, blk [iv (q0 % 200), slv g15 tk.length c16] 57), (some b19, blk [iv pm.lo, iv pm.hi, slv (some b51) pm.loads.length c4, slv g7 pm.stands.length c8, slv g11 pm.spells.length c12, iv pm.geese] 28), (some b51, blk cl5 30), (g7, blk cl9 31), (g11, blk cl13 33), (g15, blk cl17 3), (some b2, blk [iv n0, iv n1, iv n2] 84), (some b1, blk [iv q0, iv q1, .slice rA1 rn1 rc1, .slice rA2 rn2 rc2, .slice rA3 rn3 rc3] 78)]) ?_ ?_
    ·
     refine wp_drawn2 hI [0, 1, 2, 3, 4, 5, 6, 7, 8, 9, 10, 11, 12, 13] (by decide) rfl (by kernel_rfl) (by kernel_rfl) ?_
     intro hsub
     refine al_light 0 (.agg #[iv pm.lo, iv pm.hi, slv (some b51) pm.loads.length c4, slv g7 pm.stands.length c8, slv g11 pm.spells.length c12, iv pm.geese]) hsub rfl (by kernel_rfl) (fun w hI => s_loadK hI 7 6 [iv pm.lo, iv pm.hi, slv (some b51) pm.loads.length c4, slv g7 pm.stands.length c8, slv g11 pm.spells.length c12, iv pm.geese] Tryz.isAgg28 Tryz.sizeOf28 rfl rfl rfl rfl ⟨rfl, Below.refl _ _⟩) ?_
     refine alp 1 (.pointer (some ⟨b19, 2, none⟩)) hsub rfl (by kernel_rfl) (fun _ => (by kernel_rfl)) ?_
     refine al_light 2 (slv (some b51) pm.loads.length c4) hsub rfl (by kernel_rfl) (fun w hI => s_load1 hI 7 (slv (some b51) pm.loads.length c4) Tryz.isAgg24 rfl rfl rfl ⟨rfl, Below.refl _ _⟩) ?_
     refine alp 3 (iv (k : Int)) hsub rfl (by kernel_rfl) (fun _ => (by kernel_rfl)) ?_
     refine al_light 4 (.pointer (some ⟨b51, k * 6, none⟩)) hsub rfl (by kernel_rfl) (fun w hI => s_indexR k Tryz.underlying24 Tryz.sizeOf30 rfl rfl rfl (by omega) ⟨rfl, Below.refl _ _⟩) ?_
     refine alp 5 (.pointer (some ⟨b51, k * 6, none⟩)) hsub rfl (by kernel_rfl) (fun _ => (by kernel_rfl)) ?_
     refine al_light 6 (iv x49.src) hsub rfl (by kernel_rfl) (fun w hI => s_loadR1 hI 8 (iv x49.src) Tryz.isAgg3 rfl rfl (he52 0 _ rfl) ⟨rfl, Below.refl _ _⟩) ?_
     refine al_light 7 (.tuple #[.agg #[iv ((cartedC pm x49.src 20).1.lo), iv ((cartedC pm x49.src 20).1.hi)], iv ((cartedC pm x49.src 20).2)]) hsub rfl (by kernel_rfl) (fun w hI => s_call 38 [.agg #[iv pm.lo, iv pm.hi, slv (some b51) pm.loads.length c4, slv g7 pm.stands.length c8, slv g11 pm.spells.length c12, iv pm.geese], iv x49.src, iv 20] (by kernel_rfl) (Carted_c _ pm ((some b51).map fun b => ⟨b, 0, none⟩) pm.loads.length c4 (g7.map fun b => ⟨b, 0, none⟩) pm.stands.length c8 (g11.map fun b => ⟨b, 0, none⟩) pm.spells.length c12 ⟨(hI.rowCells 8 rfl r6), rfl, (hI.rowCells 9 rfl r10), rfl, (hI.rowCells 10 rfl r14), rfl, r6.big_7, r10.big_7, r14.big_7⟩ x49.src 20 hn19) (fun v' w' h => h)) ?_
     refine alp 8 (.tuple #[.agg #[iv ((cartedC pm x49.src 20).1.lo), iv ((cartedC pm x49.src 20).1.hi)], iv ((cartedC pm x49.src 20).2)]) hsub rfl (by kernel_rfl) (fun _ => (by kernel_rfl)) ?_
     refine alp 9 (.agg #[iv ((cartedC pm x49.src 20).1.lo), iv ((cartedC pm x49.src 20).1.hi)]) hsub rfl (by kernel_rfl) (fun _ => (by kernel_rfl)) ?_
     refine alp 10 (iv ((cartedC pm x49.src 20).2)) hsub rfl (by kernel_rfl) (fun _ => (by kernel_rfl)) ?_
     refine any_heavy [11] (by kernel_rfl) rfl (each1 ?_)
     intro w hI
     refine ol_c rfl (s_allocI hI [iv 0, iv 0] Tryz.zeroValue23 rfl ?_)
     intro b53 w hI
     refine ⟨_, hI, subk (fun _ h => h.pickL [1, 2, 3, 4, 5, 6, 7, 8, 9, 10, 11, 12, 13, 14] (by decide) rfl) ?_⟩
     intro hsub
     refine any_heavy [12] (by kernel_rfl) rfl (each1 ?_)
     intro w hI
     refine ol_c rfl (s_store hI 0 2 [iv ((cartedC pm x49.src 20).1.lo), iv ((cartedC pm x49.src 20).1.hi)] Tryz.sizeOf23 rfl rfl rfl rfl rfl (Nat.le_of_ble_eq_true rfl) ?_)
     intro w hI
     refine ⟨_, hI, subk (fun _ h => h.pickL [1, 2, 3, 4, 5, 6, 7, 8, 9, 10, 11, 12, 13, 14] (by decide) rfl) ?_⟩
     intro hsub
     refine alp 13 (iv ((cartedC pm x49.src 20).2)) hsub rfl (by kernel_rfl) (fun _ => (by kernel_rfl)) ?_
     refine any_end (by kernel_rfl) (fun w hI => ?_)
     exact ⟨rfl, b53, ⟨rfl, rfl, rfl, rfl, rfl, trivial⟩, hI.pickL [0, 1, 2, 3, 4, 5, 6, 7, 8, 9, 10, 11, 12, 13, 14] (by decide) rfl⟩
    ·rintro ρ w ⟨b53, hag, hI⟩
     obtain ⟨ρ, rfl⟩ := hag.form; clear hag
     refine wp_cut (fun ρ w => ∃ (b54 : Nat), Agree ρ [(6, .pointer (some ⟨b19, 0, none⟩)), (12, .pointer (some ⟨b33, 0, none⟩)), (22, iv (k : Int)), (23, .pointer (some ⟨b53, 0, none⟩)), (24, iv ((cartedC pm x49.src 20).2)), (25, .pointer (some ⟨b54, 0, none⟩)), (26, iv ((cartedC qm x49.src 20).2))] ∧ Inv none w0 w [(some b54, blk [iv ((cartedC qm x49.src 20).1.lo), iv ((cartedC qm x49.src 20).1.hi)] 23), (some b53, blk [iv ((cartedC pm x49.src 20).1.lo), iv ((cartedC pm x49.src 20).1.hi)] 23), (some b48, blk [iv ((stoodC qm (15 + (n2 % 130)) 20).1.lo), iv ((stoodC qm (15 + (n2 % 130)) 20).1.hi)] 23), (some b47, blk [iv ((stoodC pm (15 + (n2 % 130)) 20).1.lo), iv ((stoodC pm (15 + (n2 % 130)) 20).1.hi)] 23), (some b33, blk [iv qm.lo, iv qm.hi, slv g21 qm.loads.length c22, slv g25 qm.stands.length c26, slv g29 qm.spells.length c30, iv qm.geese] 28), (g21, blk cl23 30), (g25, blk cl27 31), (g29, blk cl31 33), (some b20, blk [iv (q0 % 200), slv g15 tk.length c16] 57), (some b19, blk [iv pm.lo, iv pm.hi, slv (some b51) pm.loads.length c4, slv g7 pm.stands.length c8, slv g11 pm.spells.length c12, iv pm.geese] 28), (some b51, blk cl5 30), (g7, blk cl9 31), (g11, blk cl13 33), (g15, blk cl17 3), (some b2, blk [iv n0, iv n1, iv n2] 84), (some b1, blk [iv q0, iv q1, .slice rA1 rn1 rc1, .slice rA2 rn2 rc2, .slice rA3 rn3 rc3] 78)]) ?_ ?_
     ·
      refine wp_drawn2 hI [0, 1, 2, 3, 4, 5, 6, 7, 8, 9, 10, 11, 12, 13, 14] (by decide) rfl (by kernel_rfl) (by kernel_rfl) ?_
      intro hsub
      refine al_light 0 (.agg #[iv qm.lo, iv qm.hi, slv g21 qm.loads.length c22, slv g25 qm.stands.length c26, slv g29 qm.spells.length c30, iv qm.geese]) hsub rfl (by kernel_rfl) (fun w hI => s_loadK hI 3 6 [iv qm.lo, iv qm.hi, slv g21 qm.loads.length c22, slv g25 qm.stands.length c26, slv g29 qm.spells.length c30, iv qm.geese] Tryz.isAgg28 Tryz.sizeOf28 rfl rfl rfl rfl ⟨rfl, Below.refl _ _⟩) ?_
      refine alp 1 (.pointer (some ⟨b19, 2, none⟩)) hsub rfl (by kernel_rfl) (fun _ => (by kernel_rfl)) ?_
      refine al_light 2 (slv (some b51) pm.loads.length c4) hsub rfl (by kernel_rfl) (fun w hI => s_load1 hI 8 (slv (some b51) pm.loads.length c4) Tryz.isAgg24 rfl rfl rfl ⟨rfl, Below.refl _ _⟩) ?_
      refine alp 3 (iv (k : Int)) hsub rfl (by kernel_rfl) (fun _ => (by kernel_rfl)) ?_
      refine al_light 4 (.pointer (some ⟨b51, k * 6, none⟩)) hsub rfl (by kernel_rfl) (fun w hI => s_indexR k Tryz.underlying24 Tryz.sizeOf30 rfl rfl rfl (by omega) ⟨rfl, Below.refl _ _⟩) ?_
      refine alp 5 (.pointer (some ⟨b51, k * 6, none⟩)) hsub rfl (by kernel_rfl) (fun _ => (by kernel_rfl)) ?_
      refine al_light 6 (iv x49.src) hsub rfl (by kernel_rfl) (fun w hI => s_loadR1 hI 9 (iv x49.src) Tryz.isAgg3 rfl rfl (he52 0 _ rfl) ⟨rfl, Below.refl _ _⟩) ?_
      refine al_light 7 (.tuple #[.agg #[iv ((cartedC qm x49.src 20).1.lo), iv ((cartedC qm x49.src 20).1.hi)], iv ((cartedC qm x49.src 20).2)]) hsub rfl (by kernel_rfl) (fun w hI => s_call 38 [.agg #[iv qm.lo, iv qm.hi, slv g21 qm.loads.length c22, slv g25 qm.stands.length c26, slv g29 qm.spells.length c30, iv qm.geese], iv x49.src, iv 20] (by kernel_rfl) (Carted_c _ qm (g21.map fun b => ⟨b, 0, none⟩) qm.loads.length c22 (g25.map fun b => ⟨b, 0, none⟩) qm.stands.length c26 (g29.map fun b => ⟨b, 0, none⟩) qm.spells.length c30 ⟨(hI.rowCells 4 rfl r24), rfl, (hI.rowCells 5 rfl r28), rfl, (hI.rowCells 6 rfl r32), rfl, r24.big_7, r28.big_7, r32.big_7⟩ x49.src 20 hqn) (fun v' w' h => h)) ?_
      refine alp 8 (.tuple #[.agg #[iv ((cartedC qm x49.src 20).1.lo), iv ((cartedC qm x49.src 20).1.hi)], iv ((cartedC qm x49.src 20).2)]) hsub rfl (by kernel_rfl) (fun _ => (by kernel_rfl)) ?_
      refine alp 9 (.agg #[iv ((cartedC qm x49.src 20).1.lo), iv ((cartedC qm x49.src 20).1.hi)]) hsub rfl (by kernel_rfl) (fun _ => (by kernel_rfl)) ?_
      refine alp 10 (iv ((cartedC qm x49.src 20).2)) hsub rfl (by kernel_rfl) (fun _ => (by kernel_rfl)) ?_
      refine any_heavy [11] (by kernel_rfl) rfl (each1 ?_)
      intro w hI
      refine ol_c rfl (s_allocI hI [iv 0, iv 0] Tryz.zeroValue23 rfl ?_)
      intro b54 w hI
      refine ⟨_, hI, subk (fun _ h => h.pickL [1, 2, 3, 4, 5, 6, 7, 8, 9, 10, 11, 12, 13, 14, 15] (by decide) rfl) ?_⟩
      intro hsub
      refine any_heavy [12] (by kernel_rfl) rfl (each1 ?_)
      intro w hI
      refine ol_c rfl (s_store hI 0 2 [iv ((cartedC qm x49.src 20).1.lo), iv ((cartedC qm x49.src 20).1.hi)] Tryz.sizeOf23 rfl rfl rfl rfl rfl (Nat.le_of_ble_eq_true rfl) ?_)
      intro w hI
      refine ⟨_, hI, subk (fun _ h => h.pickL [1, 2, 3, 4, 5, 6, 7, 8, 9, 10, 11, 12, 13, 14, 15] (by decide) rfl) ?_⟩
      intro hsub
      refine alp 13 (iv ((cartedC qm x49.src 20).2)) hsub rfl (by kernel_rfl) (fun _ => (by kernel_rfl)) ?_
      refine any_end (by kernel_rfl) (fun w hI => ?_)
      exact ⟨rfl, b54, ⟨rfl, rfl, rfl, rfl, rfl, rfl, rfl, trivial⟩, hI.pickL [0, 1, 2, 3, 4, 5, 6, 7, 8, 9, 10, 11, 12, 13, 14, 15] (by decide) rfl⟩
     ·rintro ρ w ⟨b54, hag, hI⟩
      obtain ⟨ρ, rfl⟩ := hag.form; clear hag
      refine wp_seq (rgn (by kernel_rfl) (pu (iv ((cartedC pm x49.src 20).2)) (by kernel_rfl) (seq_c (s_neq rfl rfl ?_ ?_))))
      ·intro h18
       exact absurd h18 (not_not_intro (hN.c1 _ _ hx50))
      ·intro h19
       refine pu (.bool false) (by kernel_rfl) (puo (iv ((cartedC qm x49.src 20).2)) ⟨(by kernel_rfl), (by kernel_rfl)⟩ (seq_on (by kernel_rfl) (s_neq rfl rfl ?_ ?_)))
       ·intro h20
        exact absurd h20 (not_not_intro (hN.c2 _ _ hx50))
       ·intro h21
        refine pu (.bool false) (by kernel_rfl) (pu (.bool false) (by kernel_rfl) (puo (.pointer (some ⟨b54, 0, none⟩)) ⟨(by kernel_rfl), (by kernel_rfl)⟩ (seq_on (by kernel_rfl) (s_load1 hI 0 (iv ((cartedC qm x49.src 20).1.lo)) Tryz.isAgg3 rfl rfl rfl ?_))))
        refine puo (.pointer (some ⟨b53, 0, none⟩)) ⟨(by kernel_rfl), (by kernel_rfl)⟩ (seq_on (by kernel_rfl) (s_load1 hI 1 (iv ((cartedC pm x49.src 20).1.lo)) Tryz.isAgg3 rfl rfl rfl ?_))
        refine seq_on (by kernel_rfl) (s_lss rfl rfl ?_ ?_)
        ·intro h22
         exact absurd h22 (hN.clo _ _ hx50)
        ·intro h23
         refine pu (.bool false) (by kernel_rfl) (pu (.bool false) (by kernel_rfl) (puo (.pointer (some ⟨b54, 1, none⟩)) ⟨(by kernel_rfl), (by kernel_rfl)⟩ (seq_on (by kernel_rfl) (s_load1 hI 0 (iv ((cartedC qm x49.src 20).1.hi)) Tryz.isAgg3 rfl rfl rfl ?_))))
         refine puo (.pointer (some ⟨b53, 1, none⟩)) ⟨(by kernel_rfl), (by kernel_rfl)⟩ (seq_on (by kernel_rfl) (s_load1 hI 1 (iv ((cartedC pm x49.src 20).1.hi)) Tryz.isAgg3 rfl rfl rfl ?_))
         refine seq_on (by kernel_rfl) (s_gtr rfl rfl ?_ ?_)
         ·intro h24
          exact absurd h24 (hN.chi _ _ hx50)
         ·intro h25
          refine pu (.bool false) (by kernel_rfl) (seq_nil (wp_condF rfl (wp_skip (rgn (by kernel_rfl) (pu (iv (k : Int)) (by kernel_rfl) (seq_c (s_add rfl rfl (by omega) ?_)))))))
          refine pu (iv ((k : Int) + 1)) (by kernel_rfl) (seq_nil ?_)
          exact ⟨rfl, _, (by omega), ⟨k + 1, ⟨rfl, rfl, rfl, trivial⟩, hI.pickL [2, 3, 4, 5, 6, 7, 8, 9, 10, 11, 12, 13, 14, 15] (by decide) rfl, (by omega), rfl⟩⟩
   ·intro h26
    refine seq_nil (wp_condF rfl (wp_exit ?_))
    refine wp_seq (rgn (by kernel_rfl) (pu (.bool true) (by kernel_rfl) (seq_nil (wp_ret ?_))))
    exact ⟨.bool true, Ret.r1 rfl rfl, ⟨rfl, hI.below⟩⟩

end Go.K
