/- The law of no sheaf: the walk. -/
import Derived.Test.YtinkdlmimiefaaaGreatProg
import Derived.Test.YtinkdlmimiefaaaGreatPG8
import Derived.Test.YtinkdlmimiefaaaGreatPM33
import Derived.Test.YtinkdlmimiefaaaGreatPXS
namespace Go.K
open Go.Proofs Go.RowKit
set_option linter.unusedVariables false
set_option linter.unusedSimpArgs false
set_option maxRecDepth 100000
attribute [local irreducible] Seq Step CallV AnyE opX

section steps
variable {P : Program} {ρ : Env} {w : World} {R : Value → World → Prop} {d : Option Nat} {ty : TypeId} {pos : String} {af : Array Edge} {gd : Option (Nat × Bool)}
theorem s_neqS_ {T Ty : TypeId} {x y : Operand} {a : Int} (ha : ev ρ x = .int .i64 a) (hb : ev ρ y = .int .i64 a) (k : R (.bool false) w) : Step P ⟨d, .binOp .neq T x y Ty, ty, pos, af, gd⟩ ρ w R :=
  s_neq ha hb (fun h => absurd rfl h) (fun _ => k)
end steps
theorem Row.big_3 {k : Nat} {g : Option Nat} {n c : Nat} {cl xs : List Value} (h : Row k g n c cl xs) : n ≤ 9223372036854775807 := Nat.le_trans h.cap (by have := h.capmax; unfold maxLen at this; omega)
theorem made_few3 (x0 x1 : Int) (ls ss ps : List A4) : (madeF x0 x1 ls ss ps).loads.length < 20 := by
  show (List.map Prod.fst (mLoads 0 20 (x0 % 200) (ls.take 6))).length < 20
  rw [List.length_map, mLoads_len, List.length_take]
  omega

set_option maxHeartbeats 3200000 in
theorem SheafTrue_c (w0 : World) (q0 q1 : Int) (hq0 : -9223372036854775808 ≤ q0 ∧ q0 ≤ 9223372036854775807) (rA1 : Option Addr) (rn1 rc1 : Nat) (rA2 : Option Addr) (rn2 rc2 : Nat) (rA3 : Option Addr) (rn3 rc3 : Nat) (ls ss ps : List A4) (hC1 : Cells w0 rA1 (flat eA4 ls)) (hn1 : rn1 = ls.length) (hx1_ : rn1 ≤ 9223372036854775807) (hC2 : Cells w0 rA2 (flat eA4 ss)) (hn2 : rn2 = ss.length) (hx2_ : rn2 ≤ 9223372036854775807) (hC3 : Cells w0 rA3 (flat eA4 ps)) (hn3 : rn3 = ps.length) (hx3_ : rn3 ≤ 9223372036854775807) (hok_ls : ∀ r ∈ ls, A4Ok r) (hok_ss : ∀ r ∈ ss, A4Ok r) (n0 : Int) : Does Tryz.prog 7 [.agg #[.int .i64 q0, .int .i64 q1, .slice rA1 rn1 rc1, .slice rA2 rn2 rc2, .slice rA3 rn3 rc3], .int .i64 n0] w0 fun v w => v = .bool true ∧ Below w0.heap.size w0 w := by
 refine calls_of (n := 205) Tryz.func7 rfl Tryz.ntmps7 rfl ?_
 have hI := Inv.start w0
 refine wp_seq (rgn (by kernel_rfl) (seq_c (s_boxI hI [iv q0, iv q1, .slice rA1 rn1 rc1, .slice rA2 rn2 rc2, .slice rA3 rn3 rc3] rfl ?_)))
 intro b1 w hI
 refine pu (.bool false) (by kernel_rfl) (seq_nil (wp_seq (rgn (by kernel_rfl) (seq_c (s_callv hI 13 [] (.bool true) (by kernel_rfl) (sane_c _) ?_)))))
 intro w hI
 refine pu (.bool true) (by kernel_rfl) (seq_nil (wp_seq (rgn (by kernel_rfl) (seq_c (s_loadK hI 0 5 [iv q0, iv q1, .slice rA1 rn1 rc1, .slice rA2 rn2 rc2, .slice rA3 rn3 rc3] Tryz.isAgg78 Tryz.sizeOf78 rfl rfl rfl rfl ?_)))))
 obtain ⟨pm, hpm⟩ : ∃ z, z = madeF q0 q1 ls ss ps := ⟨_, rfl⟩
 obtain ⟨tk, htk⟩ : ∃ z, z = ((mLoads 0 20 (q0 % 200) (ls.take 6)).map Prod.snd) := ⟨_, rfl⟩
 obtain ⟨nf, hnf⟩ : ∃ z, z = numF (mLoads 0 20 (q0 % 200) (ls.take 6)) := ⟨_, rfl⟩
 have hTA : TrueAt (scnF pm 20) (crtF pm 20) (q0 % 200) tk nf := by rw [hpm, htk, hnf]; exact made_true_at q0 q1 ls ss ps
 have hTo : Told pm 20 (15 + (n0 % 130)) (q0 % 200) tk nf := by rw [hpm, htk, hnf]; exact made_told q0 q1 ls ss ps (by simp [isHourB]; omega)
 have hv : plotB pm = true := by rw [hpm]; exact made_valid q0 q1 ls ss ps
 have hday : dayI pm 20 = 0 := by simp [dayI, hv, show isDayB 20 = true by decide]
 have hhour : hourI pm (15 + (n0 % 130)) 20 = 0 := by simp [hourI, hv, show isDayB 20 = true by decide, show isHourB (15 + (n0 % 130)) = true by simp [isHourB]; omega]
 have hn19 : pm.loads.length < 20 := by rw [hpm]; exact made_few3 q0 q1 ls ss ps
 have htl : tk.length = pm.loads.length := by rw [hpm, htk]; show (List.map Prod.snd _).length = (List.map Prod.fst _).length; rw [List.length_map, List.length_map]
 obtain ⟨lf, hlf⟩ : ∃ z, z = leftF (crtF pm 20) nf (q0 % 200) (15 + (n0 % 130)) := ⟨_, rfl⟩
 obtain ⟨tf, htf⟩ : ∃ z, z = trulyF (scnF pm 20) (crtF pm 20) nf (q0 % 200) (15 + (n0 % 130)) := ⟨_, rfl⟩
 have t_lo := hTo.lo; have t_hi := hTo.hi; have t_yes := hTo.yes; have t_no := hTo.no; have t_oy := hTo.oyes; have t_on := hTo.ono; have t_tr := hTo.tr; have t_f1 := hTo.f1; have t_f2 := hTo.f2
 rw [← htf] at t_oy t_on t_tr; rw [← hlf] at t_lo t_hi t_yes t_no t_tr t_f1 t_f2
 refine seq_c (s_callMade hI (q := pm) (t := q0 % 200) (l := tk) 57 [.agg #[iv q0, iv q1, .slice rA1 rn1 rc1, .slice rA2 rn2 rc2, .slice rA3 rn3 rc3], .bool true] (by kernel_rfl) (by rw [hpm, htk]; exact Made_c _ q0 q1 hq0 rA1 rn1 rc1 rA2 rn2 rc2 rA3 rn3 rc3 ls ss ps (hC1.inv0 hI) hn1 hx1_ (hC2.inv0 hI) hn2 hx2_ (hC3.inv0 hI) hn3 hx3_ hok_ls hok_ss) ?_)
 intro g2 c3 cl4 g6 c7 cl8 g10 c11 cl12 g14 c15 cl16 w hI r5 r9 r13 r17
 refine pu (.tuple #[.agg #[iv pm.lo, iv pm.hi, slv g2 pm.loads.length c3, slv g6 pm.stands.length c7, slv g10 pm.spells.length c11, iv pm.geese], .agg #[iv (q0 % 200), slv g14 tk.length c15]]) (by kernel_rfl) (pu (.agg #[iv pm.lo, iv pm.hi, slv g2 pm.loads.length c3, slv g6 pm.stands.length c7, slv g10 pm.spells.length c11, iv pm.geese]) (by kernel_rfl) (pu (.agg #[iv (q0 % 200), slv g14 tk.length c15]) (by kernel_rfl) (seq_c (s_allocI hI [iv 0, iv 0, .slice none 0 0, .slice none 0 0, .slice none 0 0, iv 0] Tryz.zeroValue28 rfl ?_))))
 intro b18 w hI
 refine seq_c (s_allocI hI [iv 0, .slice none 0 0] Tryz.zeroValue57 rfl ?_)
 intro b19 w hI
 refine seq_c (s_store hI 1 6 [iv pm.lo, iv pm.hi, slv g2 pm.loads.length c3, slv g6 pm.stands.length c7, slv g10 pm.spells.length c11, iv pm.geese] Tryz.sizeOf28 rfl rfl rfl rfl rfl (Nat.le_of_ble_eq_true rfl) ?_)
 intro w hI
 refine seq_c (s_store hI 0 2 [iv (q0 % 200), slv g14 tk.length c15] Tryz.sizeOf57 rfl rfl rfl rfl rfl (Nat.le_of_ble_eq_true rfl) ?_)
 intro w hI
 refine seq_nil (wp_seq (rgn (by kernel_rfl) (pu (iv n0) (by kernel_rfl) (seq_c (s_callv hI 58 [iv n0, iv 130] (iv (n0 % 130)) (by kernel_rfl) (ModC n0 130  (by omega) _) ?_)))))
 intro w hI
 refine seq_c (s_add rfl rfl (by omega) ?_)
 refine pu (iv (15 + (n0 % 130))) (by kernel_rfl) (seq_nil (wp_seq (wp_seq (rgn (by kernel_rfl) (pu (.bool true) (by kernel_rfl) (pu (.bool false) (by kernel_rfl) (pu (.bool false) (by kernel_rfl) (seq_on (by kernel_rfl) (s_loadK hI 1 6 [iv pm.lo, iv pm.hi, slv g2 pm.loads.length c3, slv g6 pm.stands.length c7, slv g10 pm.spells.length c11, iv pm.geese] Tryz.isAgg28 Tryz.sizeOf28 rfl rfl rfl rfl ?_)))))))))
 refine seq_on (by kernel_rfl) (s_loadK hI 0 2 [iv (q0 % 200), slv g14 tk.length c15] Tryz.isAgg57 Tryz.sizeOf57 rfl rfl rfl rfl ?_)
 refine seq_on (by kernel_rfl) (s_callv hI 42 [.agg #[iv pm.lo, iv pm.hi, slv g2 pm.loads.length c3, slv g6 pm.stands.length c7, slv g10 pm.spells.length c11, iv pm.geese], iv 20, .agg #[iv (q0 % 200), slv g14 tk.length c15]] (iv 0) (by kernel_rfl) (CheckCarting_c _ pm (g2.map fun b => ⟨b, 0, none⟩) pm.loads.length c3 (g6.map fun b => ⟨b, 0, none⟩) pm.stands.length c7 (g10.map fun b => ⟨b, 0, none⟩) pm.spells.length c11 ⟨(hI.rowCells 2 rfl r5), rfl, (hI.rowCells 3 rfl r9), rfl, (hI.rowCells 4 rfl r13), rfl, r5.big_3, r9.big_3, r13.big_3⟩ 20 hn19 hday (q0 % 200) (g14.map fun b => ⟨b, 0, none⟩) tk.length c15 tk (hI.rowCells 5 rfl r17) rfl nf hTA) ?_)
 intro w hI
 refine seq_on (by kernel_rfl) (s_neqS_ rfl rfl ?_)
 refine pu (.bool false) (by kernel_rfl) (seq_nil (wp_condF rfl (wp_skip (wp_seq (rgn (by kernel_rfl) (seq_c (s_loadK hI 1 6 [iv pm.lo, iv pm.hi, slv g2 pm.loads.length c3, slv g6 pm.stands.length c7, slv g10 pm.spells.length c11, iv pm.geese] Tryz.isAgg28 Tryz.sizeOf28 rfl rfl rfl rfl ?_)))))))
 refine pu (iv (15 + (n0 % 130))) (by kernel_rfl) (seq_c (s_callv hI 36 [.agg #[iv pm.lo, iv pm.hi, slv g2 pm.loads.length c3, slv g6 pm.stands.length c7, slv g10 pm.spells.length c11, iv pm.geese], iv (15 + (n0 % 130)), iv 20] (.tuple #[.agg #[iv ((stoodC pm (15 + (n0 % 130)) 20).1.lo), iv ((stoodC pm (15 + (n0 % 130)) 20).1.hi)], iv ((stoodC pm (15 + (n0 % 130)) 20).2)]) (by kernel_rfl) (Stood_c _ pm (g2.map fun b => ⟨b, 0, none⟩) pm.loads.length c3 (g6.map fun b => ⟨b, 0, none⟩) pm.stands.length c7 (g10.map fun b => ⟨b, 0, none⟩) pm.spells.length c11 ⟨(hI.rowCells 2 rfl r5), rfl, (hI.rowCells 3 rfl r9), rfl, (hI.rowCells 4 rfl r13), rfl, r5.big_3, r9.big_3, r13.big_3⟩ (15 + (n0 % 130)) 20 (by omega)) ?_))
 intro w hI
 refine pu (.tuple #[.agg #[iv ((stoodC pm (15 + (n0 % 130)) 20).1.lo), iv ((stoodC pm (15 + (n0 % 130)) 20).1.hi)], iv ((stoodC pm (15 + (n0 % 130)) 20).2)]) (by kernel_rfl) (pu (.agg #[iv ((stoodC pm (15 + (n0 % 130)) 20).1.lo), iv ((stoodC pm (15 + (n0 % 130)) 20).1.hi)]) (by kernel_rfl) (pu (iv ((stoodC pm (15 + (n0 % 130)) 20).2)) (by kernel_rfl) (seq_c (s_allocI hI [iv 0, iv 0] Tryz.zeroValue23 rfl ?_))))
 intro b20 w hI
 refine seq_c (s_store hI 0 2 [iv ((stoodC pm (15 + (n0 % 130)) 20).1.lo), iv ((stoodC pm (15 + (n0 % 130)) 20).1.hi)] Tryz.sizeOf23 rfl rfl rfl rfl rfl (Nat.le_of_ble_eq_true rfl) ?_)
 intro w hI
 refine pu (iv ((stoodC pm (15 + (n0 % 130)) 20).2)) (by kernel_rfl) (seq_nil (wp_seq (rgn (by kernel_rfl) (seq_c (s_loadK hI 2 6 [iv pm.lo, iv pm.hi, slv g2 pm.loads.length c3, slv g6 pm.stands.length c7, slv g10 pm.spells.length c11, iv pm.geese] Tryz.isAgg28 Tryz.sizeOf28 rfl rfl rfl rfl ?_)))))
 refine seq_c (s_loadK hI 1 2 [iv (q0 % 200), slv g14 tk.length c15] Tryz.isAgg57 Tryz.sizeOf57 rfl rfl rfl rfl ?_)
 refine pu (iv (15 + (n0 % 130))) (by kernel_rfl) (seq_c (s_callv hI 40 [.agg #[iv pm.lo, iv pm.hi, slv g2 pm.loads.length c3, slv g6 pm.stands.length c7, slv g10 pm.spells.length c11, iv pm.geese], .agg #[iv (q0 % 200), slv g14 tk.length c15], iv (15 + (n0 % 130)), iv 20] (.tuple #[iv lf, iv 0]) (by kernel_rfl) (by rw [hlf]; exact Left_c _ pm (g2.map fun b => ⟨b, 0, none⟩) pm.loads.length c3 (g6.map fun b => ⟨b, 0, none⟩) pm.stands.length c7 (g10.map fun b => ⟨b, 0, none⟩) pm.spells.length c11 ⟨(hI.rowCells 3 rfl r5), rfl, (hI.rowCells 4 rfl r9), rfl, (hI.rowCells 5 rfl r13), rfl, r5.big_3, r9.big_3, r13.big_3⟩ (15 + (n0 % 130)) 20 hn19 hhour (q0 % 200) (g14.map fun b => ⟨b, 0, none⟩) tk.length c15 tk (hI.rowCells 6 rfl r17) rfl nf hTA) ?_))
 intro w hI
 refine pu (.tuple #[iv lf, iv 0]) (by kernel_rfl) (pu (iv lf) (by kernel_rfl) (pu (iv 0) (by kernel_rfl) (pu (iv lf) (by kernel_rfl) (pu (iv 0) (by kernel_rfl) (seq_nil (wp_seq (rgn (by kernel_rfl) (seq_c (s_loadK hI 2 6 [iv pm.lo, iv pm.hi, slv g2 pm.loads.length c3, slv g6 pm.stands.length c7, slv g10 pm.spells.length c11, iv pm.geese] Tryz.isAgg28 Tryz.sizeOf28 rfl rfl rfl rfl ?_)))))))))
 refine pu (iv (15 + (n0 % 130))) (by kernel_rfl) (seq_c (s_callv hI 45 [.agg #[iv pm.lo, iv pm.hi, slv g2 pm.loads.length c3, slv g6 pm.stands.length c7, slv g10 pm.spells.length c11, iv pm.geese], iv (15 + (n0 % 130)), iv 20] (.tuple #[iv ((clearC pm (15 + (n0 % 130)) 20).1), iv ((clearC pm (15 + (n0 % 130)) 20).2)]) (by kernel_rfl) (Clear_c _ pm (g2.map fun b => ⟨b, 0, none⟩) pm.loads.length c3 (g6.map fun b => ⟨b, 0, none⟩) pm.stands.length c7 (g10.map fun b => ⟨b, 0, none⟩) pm.spells.length c11 ⟨(hI.rowCells 3 rfl r5), rfl, (hI.rowCells 4 rfl r9), rfl, (hI.rowCells 5 rfl r13), rfl, r5.big_3, r9.big_3, r13.big_3⟩ (15 + (n0 % 130)) 20 (by omega)) ?_))
 intro w hI
 refine pu (.tuple #[iv ((clearC pm (15 + (n0 % 130)) 20).1), iv ((clearC pm (15 + (n0 % 130)) 20).2)]) (by kernel_rfl) (pu (iv ((clearC pm (15 + (n0 % 130)) 20).1)) (by kernel_rfl) (pu (iv ((clearC pm (15 + (n0 % 130)) 20).2)) (by kernel_rfl) (pu (iv ((clearC pm (15 + (n0 % 130)) 20).1)) (by kernel_rfl) (pu (iv ((clearC pm (15 + (n0 % 130)) 20).2)) (by kernel_rfl) (seq_nil (wp_seq (rgn (by kernel_rfl) (seq_c (s_loadK hI 2 6 [iv pm.lo, iv pm.hi, slv g2 pm.loads.length c3, slv g6 pm.stands.length c7, slv g10 pm.spells.length c11, iv pm.geese] Tryz.isAgg28 Tryz.sizeOf28 rfl rfl rfl rfl ?_)))))))))
 refine pu (iv (15 + (n0 % 130))) (by kernel_rfl) (seq_c (s_callv hI 51 [.agg #[iv pm.lo, iv pm.hi, slv g2 pm.loads.length c3, slv g6 pm.stands.length c7, slv g10 pm.spells.length c11, iv pm.geese], iv (15 + (n0 % 130)), iv 20] (.tuple #[iv ((openC pm (15 + (n0 % 130)) 20).1), iv ((openC pm (15 + (n0 % 130)) 20).2)]) (by kernel_rfl) (Open_c _ pm (g2.map fun b => ⟨b, 0, none⟩) pm.loads.length c3 (g6.map fun b => ⟨b, 0, none⟩) pm.stands.length c7 (g10.map fun b => ⟨b, 0, none⟩) pm.spells.length c11 ⟨(hI.rowCells 3 rfl r5), rfl, (hI.rowCells 4 rfl r9), rfl, (hI.rowCells 5 rfl r13), rfl, r5.big_3, r9.big_3, r13.big_3⟩ (15 + (n0 % 130)) 20 (by omega)) ?_))
 intro w hI
 refine pu (.tuple #[iv ((openC pm (15 + (n0 % 130)) 20).1), iv ((openC pm (15 + (n0 % 130)) 20).2)]) (by kernel_rfl) (pu (iv ((openC pm (15 + (n0 % 130)) 20).1)) (by kernel_rfl) (pu (iv ((openC pm (15 + (n0 % 130)) 20).2)) (by kernel_rfl) (pu (iv ((openC pm (15 + (n0 % 130)) 20).1)) (by kernel_rfl) (pu (iv ((openC pm (15 + (n0 % 130)) 20).2)) (by kernel_rfl) (seq_nil (wp_seq (rgn (by kernel_rfl) (seq_c (s_loadK hI 2 6 [iv pm.lo, iv pm.hi, slv g2 pm.loads.length c3, slv g6 pm.stands.length c7, slv g10 pm.spells.length c11, iv pm.geese] Tryz.isAgg28 Tryz.sizeOf28 rfl rfl rfl rfl ?_)))))))))
 refine seq_c (s_loadK hI 1 2 [iv (q0 % 200), slv g14 tk.length c15] Tryz.isAgg57 Tryz.sizeOf57 rfl rfl rfl rfl ?_)
 refine pu (iv (15 + (n0 % 130))) (by kernel_rfl) (seq_c (s_callv hI 53 [.agg #[iv pm.lo, iv pm.hi, slv g2 pm.loads.length c3, slv g6 pm.stands.length c7, slv g10 pm.spells.length c11, iv pm.geese], .agg #[iv (q0 % 200), slv g14 tk.length c15], iv (15 + (n0 % 130)), iv 20] (.tuple #[.bool tf, iv 0]) (by kernel_rfl) (by rw [htf]; exact Truly_c _ pm (g2.map fun b => ⟨b, 0, none⟩) pm.loads.length c3 (g6.map fun b => ⟨b, 0, none⟩) pm.stands.length c7 (g10.map fun b => ⟨b, 0, none⟩) pm.spells.length c11 ⟨(hI.rowCells 3 rfl r5), rfl, (hI.rowCells 4 rfl r9), rfl, (hI.rowCells 5 rfl r13), rfl, r5.big_3, r9.big_3, r13.big_3⟩ (15 + (n0 % 130)) 20 hn19 hhour (q0 % 200) (g14.map fun b => ⟨b, 0, none⟩) tk.length c15 tk (hI.rowCells 6 rfl r17) rfl nf hTA) ?_))
 intro w hI
 refine pu (.tuple #[.bool tf, iv 0]) (by kernel_rfl) (pu (.bool tf) (by kernel_rfl) (pu (iv 0) (by kernel_rfl) (pu (.bool tf) (by kernel_rfl) (pu (iv 0) (by kernel_rfl) (seq_nil (wp_seq (rgn (by kernel_rfl) (seq_c (s_loadK hI 2 6 [iv pm.lo, iv pm.hi, slv g2 pm.loads.length c3, slv g6 pm.stands.length c7, slv g10 pm.spells.length c11, iv pm.geese] Tryz.isAgg28 Tryz.sizeOf28 rfl rfl rfl rfl ?_)))))))))
 refine seq_c (s_callv hI 47 [.agg #[iv pm.lo, iv pm.hi, slv g2 pm.loads.length c3, slv g6 pm.stands.length c7, slv g10 pm.spells.length c11, iv pm.geese], iv 20] (.tuple #[.agg #[iv (firstC pm 20).1.lo, iv (firstC pm 20).1.hi], iv (firstC pm 20).2]) (by kernel_rfl) (First_c _ pm (g2.map fun b => ⟨b, 0, none⟩) pm.loads.length c3 (g6.map fun b => ⟨b, 0, none⟩) pm.stands.length c7 (g10.map fun b => ⟨b, 0, none⟩) pm.spells.length c11 ⟨(hI.rowCells 3 rfl r5), rfl, (hI.rowCells 4 rfl r9), rfl, (hI.rowCells 5 rfl r13), rfl, r5.big_3, r9.big_3, r13.big_3⟩ 20 (by omega)) ?_)
 intro w hI
 refine pu (.tuple #[.agg #[iv (firstC pm 20).1.lo, iv (firstC pm 20).1.hi], iv (firstC pm 20).2]) (by kernel_rfl) (pu (.agg #[iv (firstC pm 20).1.lo, iv (firstC pm 20).1.hi]) (by kernel_rfl) (pu (iv (firstC pm 20).2) (by kernel_rfl) (seq_c (s_allocI hI [iv 0, iv 0] Tryz.zeroValue23 rfl ?_))))
 intro b21 w hI
 refine seq_c (s_store hI 0 2 [iv (firstC pm 20).1.lo, iv (firstC pm 20).1.hi] Tryz.sizeOf23 rfl rfl rfl rfl rfl (Nat.le_of_ble_eq_true rfl) ?_)
 intro w hI
 refine pu (iv (firstC pm 20).2) (by kernel_rfl) (seq_nil (wp_seq (wp_seq (rgn (by kernel_rfl) (pu (iv ((stoodC pm (15 + (n0 % 130)) 20).2)) (by kernel_rfl) (seq_c (s_neq rfl rfl ?_ ?_)))))))
 ·intro h1
  exact absurd h1 (not_not_intro hTo.e1)
 ·intro h2
  refine pu (.bool false) (by kernel_rfl) (puo (iv 0) ⟨(by kernel_rfl), (by kernel_rfl)⟩ (seq_on (by kernel_rfl) (s_neqS_ rfl rfl ?_)))
  refine pu (.bool false) (by kernel_rfl) (pu (.bool false) (by kernel_rfl) (puo (iv ((clearC pm (15 + (n0 % 130)) 20).2)) ⟨(by kernel_rfl), (by kernel_rfl)⟩ (seq_on (by kernel_rfl) (s_neq rfl rfl ?_ ?_))))
  ·intro h3
   exact absurd h3 (not_not_intro hTo.e3)
  ·intro h4
   refine pu (.bool false) (by kernel_rfl) (pu (.bool false) (by kernel_rfl) (puo (iv ((openC pm (15 + (n0 % 130)) 20).2)) ⟨(by kernel_rfl), (by kernel_rfl)⟩ (seq_on (by kernel_rfl) (s_neq rfl rfl ?_ ?_))))
   ·intro h5
    exact absurd h5 (not_not_intro hTo.e4)
   ·intro h6
    refine pu (.bool false) (by kernel_rfl) (pu (.bool false) (by kernel_rfl) (puo (iv 0) ⟨(by kernel_rfl), (by kernel_rfl)⟩ (seq_on (by kernel_rfl) (s_neqS_ rfl rfl ?_))))
    refine pu (.bool false) (by kernel_rfl) (pu (.bool false) (by kernel_rfl) (puo (iv (firstC pm 20).2) ⟨(by kernel_rfl), (by kernel_rfl)⟩ (seq_on (by kernel_rfl) (s_neq rfl rfl ?_ ?_))))
    ·intro h7
     exact absurd h7 (not_not_intro hTo.e5)
    ·intro h8
     refine pu (.bool false) (by kernel_rfl) (seq_nil (wp_condF rfl (wp_skip (wp_seq (wp_cut (fun ρ w => Agree ρ [(1, iv (15 + (n0 % 130))), (6, .pointer (some ⟨b18, 0, none⟩)), (7, .pointer (some ⟨b19, 0, none⟩)), (10, iv lf), (18, .pointer (some ⟨b21, 0, none⟩)), (146, .bool false)] ∧ Inv none w0 w [(some b21, blk [iv (firstC pm 20).1.lo, iv (firstC pm 20).1.hi] 23), (some b20, blk [iv ((stoodC pm (15 + (n0 % 130)) 20).1.lo), iv ((stoodC pm (15 + (n0 % 130)) 20).1.hi)] 23), (some b19, blk [iv (q0 % 200), slv g14 tk.length c15] 57), (some b18, blk [iv pm.lo, iv pm.hi, slv g2 pm.loads.length c3, slv g6 pm.stands.length c7, slv g10 pm.spells.length c11, iv pm.geese] 28), (g2, blk cl4 30), (g6, blk cl8 31), (g10, blk cl12 33), (g14, blk cl16 3), (some b1, blk [iv q0, iv q1, .slice rA1 rn1 rc1, .slice rA2 rn2 rc2, .slice rA3 rn3 rc3] 78)]) ?_ ?_)))))
     ·
      refine rgn (by kernel_rfl) (pu (iv lf) (by kernel_rfl) (pu (.pointer (some ⟨b20, 0, none⟩)) (by kernel_rfl) (seq_c (s_load1 hI 1 (iv ((stoodC pm (15 + (n0 % 130)) 20).1.lo)) Tryz.isAgg3 rfl rfl rfl ?_))))
      refine seq_c (s_lss rfl rfl ?_ ?_)
      ·intro h9
       exact absurd h9 t_lo
      ·intro h10
       refine pu (.bool false) (by kernel_rfl) (puo (iv lf) ⟨(by kernel_rfl), (by kernel_rfl)⟩ (puo (.pointer (some ⟨b20, 1, none⟩)) ⟨(by kernel_rfl), (by kernel_rfl)⟩ (seq_on (by kernel_rfl) (s_load1 hI 1 (iv ((stoodC pm (15 + (n0 % 130)) 20).1.hi)) Tryz.isAgg3 rfl rfl rfl ?_))))
       refine seq_on (by kernel_rfl) (s_gtr rfl rfl ?_ ?_)
       ·intro h11
        exact absurd h11 t_hi
       ·intro h12
        refine pu (.bool false) (by kernel_rfl) (pu (.bool false) (by kernel_rfl) (puo (iv ((clearC pm (15 + (n0 % 130)) 20).1)) ⟨(by kernel_rfl), (by kernel_rfl)⟩ (seq_on (by kernel_rfl) (s_eql rfl rfl ?_ ?_))))
        ·intro h13
         refine puo (.bool true) ⟨(by kernel_rfl), (by kernel_rfl)⟩ (puo (iv lf) ⟨(by kernel_rfl), (by kernel_rfl)⟩ (seq_on (by kernel_rfl) (s_gtr rfl rfl ?_ ?_)))
         ·intro h14
          exact absurd h14 (t_yes h13)
         ·intro h15
          refine puo (.bool false) ⟨(by kernel_rfl), (by kernel_rfl)⟩ (pu (.bool false) (by kernel_rfl) (pu (.bool false) (by kernel_rfl) (puo (iv ((clearC pm (15 + (n0 % 130)) 20).1)) ⟨(by kernel_rfl), (by kernel_rfl)⟩ (seq_on (by kernel_rfl) (s_eql rfl rfl ?_ ?_)))))
          ·intro h16
           exact absurd h16 (by omega)
          ·intro h17
           refine puo (.bool false) ⟨(by kernel_rfl), (by kernel_rfl)⟩ (of_ (by kernel_rfl) (of_ (by kernel_rfl) (puo (.bool false) ⟨(by kernel_rfl), (by kernel_rfl)⟩ (pu (.bool false) (by kernel_rfl) (pu (.bool false) (by kernel_rfl) (puo (iv ((openC pm (15 + (n0 % 130)) 20).1)) ⟨(by kernel_rfl), (by kernel_rfl)⟩ (seq_on (by kernel_rfl) (s_eql rfl rfl ?_ ?_))))))))
           ·intro h18
            refine puo (.bool true) ⟨(by kernel_rfl), (by kernel_rfl)⟩ ?_
            rcases Bool.eq_false_or_eq_true tf with h19 | h19
            ·
             subst h19
             refine puo (.bool true) ⟨(by kernel_rfl), (by kernel_rfl)⟩ (puo (.bool false) ⟨(by kernel_rfl), (by kernel_rfl)⟩ (puo (.bool false) ⟨(by kernel_rfl), (by kernel_rfl)⟩ (pu (.bool false) (by kernel_rfl) (pu (.bool false) (by kernel_rfl) (puo (iv ((openC pm (15 + (n0 % 130)) 20).1)) ⟨(by kernel_rfl), (by kernel_rfl)⟩ (seq_on (by kernel_rfl) (s_eql rfl rfl ?_ ?_)))))))
             ·intro h20
              exact absurd h20 (by omega)
             ·intro h21
              refine puo (.bool false) ⟨(by kernel_rfl), (by kernel_rfl)⟩ (of_ (by kernel_rfl) (puo (.bool false) ⟨(by kernel_rfl), (by kernel_rfl)⟩ (pu (.bool false) (by kernel_rfl) (pu (.bool false) (by kernel_rfl) (puo (.bool true) ⟨(by kernel_rfl), (by kernel_rfl)⟩ (puo (.bool true) ⟨(by kernel_rfl), (by kernel_rfl)⟩ (puo (iv lf) ⟨(by kernel_rfl), (by kernel_rfl)⟩ (seq_on (by kernel_rfl) (s_gtr rfl rfl ?_ ?_)))))))))
              ·intro h22
               exact absurd h22 (t_yes h13)
              ·intro h23
               refine puo (.bool false) ⟨(by kernel_rfl), (by kernel_rfl)⟩ (pu (.bool false) (by kernel_rfl) (seq_nil ?_))
               exact ⟨rfl, ⟨rfl, rfl, rfl, rfl, rfl, rfl, trivial⟩, hI.pickL [0, 1, 2, 3, 4, 5, 6, 7, 8] (by decide) rfl⟩
            ·
             subst h19
             exact Bool.noConfusion (t_oy h18)
           ·intro h24
            refine puo (.bool false) ⟨(by kernel_rfl), (by kernel_rfl)⟩ (of_ (by kernel_rfl) (of_ (by kernel_rfl) (puo (.bool false) ⟨(by kernel_rfl), (by kernel_rfl)⟩ (pu (.bool false) (by kernel_rfl) (pu (.bool false) (by kernel_rfl) (puo (iv ((openC pm (15 + (n0 % 130)) 20).1)) ⟨(by kernel_rfl), (by kernel_rfl)⟩ (seq_on (by kernel_rfl) (s_eql rfl rfl ?_ ?_))))))))
            ·intro h25
             refine puo (.bool true) ⟨(by kernel_rfl), (by kernel_rfl)⟩ ?_
             rcases Bool.eq_false_or_eq_true tf with h26 | h26
             ·
              subst h26
              exact Bool.noConfusion (t_on h25)
             ·
              subst h26
              refine puo (.bool false) ⟨(by kernel_rfl), (by kernel_rfl)⟩ (puo (.bool false) ⟨(by kernel_rfl), (by kernel_rfl)⟩ (pu (.bool false) (by kernel_rfl) (pu (.bool false) (by kernel_rfl) (puo (.bool false) ⟨(by kernel_rfl), (by kernel_rfl)⟩ (puo (.bool false) ⟨(by kernel_rfl), (by kernel_rfl)⟩ (of_ (by kernel_rfl) (of_ (by kernel_rfl) (puo (.bool false) ⟨(by kernel_rfl), (by kernel_rfl)⟩ (pu (.bool false) (by kernel_rfl) ?_)))))))))
              refine seq_nil ?_
              exact ⟨rfl, ⟨rfl, rfl, rfl, rfl, rfl, rfl, trivial⟩, hI.pickL [0, 1, 2, 3, 4, 5, 6, 7, 8] (by decide) rfl⟩
            ·intro h27
             refine puo (.bool false) ⟨(by kernel_rfl), (by kernel_rfl)⟩ (of_ (by kernel_rfl) (puo (.bool false) ⟨(by kernel_rfl), (by kernel_rfl)⟩ (pu (.bool false) (by kernel_rfl) (pu (.bool false) (by kernel_rfl) ?_))))
             rcases Bool.eq_false_or_eq_true tf with h28 | h28
             ·
              subst h28
              refine puo (.bool true) ⟨(by kernel_rfl), (by kernel_rfl)⟩ (puo (.bool true) ⟨(by kernel_rfl), (by kernel_rfl)⟩ (puo (iv lf) ⟨(by kernel_rfl), (by kernel_rfl)⟩ (seq_on (by kernel_rfl) (s_gtr rfl rfl ?_ ?_))))
              ·intro h29
               exact absurd h29 (t_yes h13)
              ·intro h30
               refine puo (.bool false) ⟨(by kernel_rfl), (by kernel_rfl)⟩ (pu (.bool false) (by kernel_rfl) (seq_nil ?_))
               exact ⟨rfl, ⟨rfl, rfl, rfl, rfl, rfl, rfl, trivial⟩, hI.pickL [0, 1, 2, 3, 4, 5, 6, 7, 8] (by decide) rfl⟩
             ·
              subst h28
              refine puo (.bool false) ⟨(by kernel_rfl), (by kernel_rfl)⟩ (puo (.bool false) ⟨(by kernel_rfl), (by kernel_rfl)⟩ (of_ (by kernel_rfl) (of_ (by kernel_rfl) (puo (.bool false) ⟨(by kernel_rfl), (by kernel_rfl)⟩ (pu (.bool false) (by kernel_rfl) (seq_nil ?_))))))
              exact ⟨rfl, ⟨rfl, rfl, rfl, rfl, rfl, rfl, trivial⟩, hI.pickL [0, 1, 2, 3, 4, 5, 6, 7, 8] (by decide) rfl⟩
        ·intro h31
         refine puo (.bool false) ⟨(by kernel_rfl), (by kernel_rfl)⟩ (of_ (by kernel_rfl) (of_ (by kernel_rfl) (puo (.bool false) ⟨(by kernel_rfl), (by kernel_rfl)⟩ (pu (.bool false) (by kernel_rfl) (pu (.bool false) (by kernel_rfl) (puo (iv ((clearC pm (15 + (n0 % 130)) 20).1)) ⟨(by kernel_rfl), (by kernel_rfl)⟩ (seq_on (by kernel_rfl) (s_eql rfl rfl ?_ ?_))))))))
         ·intro h32
          refine puo (.bool true) ⟨(by kernel_rfl), (by kernel_rfl)⟩ (puo (iv lf) ⟨(by kernel_rfl), (by kernel_rfl)⟩ (seq_on (by kernel_rfl) (s_eql rfl rfl ?_ ?_)))
          ·intro h33
           exact absurd h33 (t_no h32)
          ·intro h34
           refine puo (.bool false) ⟨(by kernel_rfl), (by kernel_rfl)⟩ (pu (.bool false) (by kernel_rfl) (pu (.bool false) (by kernel_rfl) (puo (iv ((openC pm (15 + (n0 % 130)) 20).1)) ⟨(by kernel_rfl), (by kernel_rfl)⟩ (seq_on (by kernel_rfl) (s_eql rfl rfl ?_ ?_)))))
           ·intro h35
            refine puo (.bool true) ⟨(by kernel_rfl), (by kernel_rfl)⟩ ?_
            rcases Bool.eq_false_or_eq_true tf with h36 | h36
            ·
             subst h36
             refine puo (.bool true) ⟨(by kernel_rfl), (by kernel_rfl)⟩ (puo (.bool false) ⟨(by kernel_rfl), (by kernel_rfl)⟩ (puo (.bool false) ⟨(by kernel_rfl), (by kernel_rfl)⟩ (pu (.bool false) (by kernel_rfl) (pu (.bool false) (by kernel_rfl) (puo (iv ((openC pm (15 + (n0 % 130)) 20).1)) ⟨(by kernel_rfl), (by kernel_rfl)⟩ (seq_on (by kernel_rfl) (s_eql rfl rfl ?_ ?_)))))))
             ·intro h37
              exact absurd h37 (by omega)
             ·intro h38
              refine puo (.bool false) ⟨(by kernel_rfl), (by kernel_rfl)⟩ (of_ (by kernel_rfl) (puo (.bool false) ⟨(by kernel_rfl), (by kernel_rfl)⟩ (pu (.bool false) (by kernel_rfl) (pu (.bool false) (by kernel_rfl) (puo (.bool true) ⟨(by kernel_rfl), (by kernel_rfl)⟩ (puo (.bool true) ⟨(by kernel_rfl), (by kernel_rfl)⟩ (puo (iv lf) ⟨(by kernel_rfl), (by kernel_rfl)⟩ (seq_on (by kernel_rfl) (s_gtr rfl rfl ?_ ?_)))))))))
              ·intro h39
               exact absurd h39 (t_tr rfl)
              ·intro h40
               refine puo (.bool false) ⟨(by kernel_rfl), (by kernel_rfl)⟩ (pu (.bool false) (by kernel_rfl) (seq_nil ?_))
               exact ⟨rfl, ⟨rfl, rfl, rfl, rfl, rfl, rfl, trivial⟩, hI.pickL [0, 1, 2, 3, 4, 5, 6, 7, 8] (by decide) rfl⟩
            ·
             subst h36
             exact Bool.noConfusion (t_oy h35)
           ·intro h41
            refine puo (.bool false) ⟨(by kernel_rfl), (by kernel_rfl)⟩ (of_ (by kernel_rfl) (of_ (by kernel_rfl) (puo (.bool false) ⟨(by kernel_rfl), (by kernel_rfl)⟩ (pu (.bool false) (by kernel_rfl) (pu (.bool false) (by kernel_rfl) (puo (iv ((openC pm (15 + (n0 % 130)) 20).1)) ⟨(by kernel_rfl), (by kernel_rfl)⟩ (seq_on (by kernel_rfl) (s_eql rfl rfl ?_ ?_))))))))
            ·intro h42
             refine puo (.bool true) ⟨(by kernel_rfl), (by kernel_rfl)⟩ ?_
             rcases Bool.eq_false_or_eq_true tf with h43 | h43
             ·
              subst h43
              exact Bool.noConfusion (t_on h42)
             ·
              subst h43
              refine puo (.bool false) ⟨(by kernel_rfl), (by kernel_rfl)⟩ (puo (.bool false) ⟨(by kernel_rfl), (by kernel_rfl)⟩ (pu (.bool false) (by kernel_rfl) (pu (.bool false) (by kernel_rfl) (puo (.bool false) ⟨(by kernel_rfl), (by kernel_rfl)⟩ (puo (.bool false) ⟨(by kernel_rfl), (by kernel_rfl)⟩ (of_ (by kernel_rfl) (of_ (by kernel_rfl) (puo (.bool false) ⟨(by kernel_rfl), (by kernel_rfl)⟩ (pu (.bool false) (by kernel_rfl) ?_)))))))))
              refine seq_nil ?_
              exact ⟨rfl, ⟨rfl, rfl, rfl, rfl, rfl, rfl, trivial⟩, hI.pickL [0, 1, 2, 3, 4, 5, 6, 7, 8] (by decide) rfl⟩
            ·intro h44
             refine puo (.bool false) ⟨(by kernel_rfl), (by kernel_rfl)⟩ (of_ (by kernel_rfl) (puo (.bool false) ⟨(by kernel_rfl), (by kernel_rfl)⟩ (pu (.bool false) (by kernel_rfl) (pu (.bool false) (by kernel_rfl) ?_))))
             rcases Bool.eq_false_or_eq_true tf with h45 | h45
             ·
              subst h45
              refine puo (.bool true) ⟨(by kernel_rfl), (by kernel_rfl)⟩ (puo (.bool true) ⟨(by kernel_rfl), (by kernel_rfl)⟩ (puo (iv lf) ⟨(by kernel_rfl), (by kernel_rfl)⟩ (seq_on (by kernel_rfl) (s_gtr rfl rfl ?_ ?_))))
              ·intro h46
               exact absurd h46 (t_tr rfl)
              ·intro h47
               refine puo (.bool false) ⟨(by kernel_rfl), (by kernel_rfl)⟩ (pu (.bool false) (by kernel_rfl) (seq_nil ?_))
               exact ⟨rfl, ⟨rfl, rfl, rfl, rfl, rfl, rfl, trivial⟩, hI.pickL [0, 1, 2, 3, 4, 5, 6, 7, 8] (by decide) rfl⟩
             ·
              subst h45
              refine puo (.bool false) ⟨(by kernel_rfl), (by kernel_rfl)⟩ (puo (.bool false) ⟨(by kernel_rfl), (by kernel_rfl)⟩ (of_ (by kernel_rfl) (of_ (by kernel_rfl) (puo (.bool false) ⟨(by kernel_rfl), (by kernel_rfl)⟩ (pu (.bool false) (by kernel_rfl) (seq_nil ?_))))))
              exact ⟨rfl, ⟨rfl, rfl, rfl, rfl, rfl, rfl, trivial⟩, hI.pickL [0, 1, 2, 3, 4, 5, 6, 7, 8] (by decide) rfl⟩
         ·intro h48
          refine puo (.bool false) ⟨(by kernel_rfl), (by kernel_rfl)⟩ (of_ (by kernel_rfl) (of_ (by kernel_rfl) (puo (.bool false) ⟨(by kernel_rfl), (by kernel_rfl)⟩ (pu (.bool false) (by kernel_rfl) (pu (.bool false) (by kernel_rfl) (puo (iv ((openC pm (15 + (n0 % 130)) 20).1)) ⟨(by kernel_rfl), (by kernel_rfl)⟩ (seq_on (by kernel_rfl) (s_eql rfl rfl ?_ ?_))))))))
          ·intro h49
           refine puo (.bool true) ⟨(by kernel_rfl), (by kernel_rfl)⟩ ?_
           rcases Bool.eq_false_or_eq_true tf with h50 | h50
           ·
            subst h50
            refine puo (.bool true) ⟨(by kernel_rfl), (by kernel_rfl)⟩ (puo (.bool false) ⟨(by kernel_rfl), (by kernel_rfl)⟩ (puo (.bool false) ⟨(by kernel_rfl), (by kernel_rfl)⟩ (pu (.bool false) (by kernel_rfl) (pu (.bool false) (by kernel_rfl) (puo (iv ((openC pm (15 + (n0 % 130)) 20).1)) ⟨(by kernel_rfl), (by kernel_rfl)⟩ (seq_on (by kernel_rfl) (s_eql rfl rfl ?_ ?_)))))))
            ·intro h51
             exact absurd h51 (by omega)
            ·intro h52
             refine puo (.bool false) ⟨(by kernel_rfl), (by kernel_rfl)⟩ (of_ (by kernel_rfl) (puo (.bool false) ⟨(by kernel_rfl), (by kernel_rfl)⟩ (pu (.bool false) (by kernel_rfl) (pu (.bool false) (by kernel_rfl) (puo (.bool true) ⟨(by kernel_rfl), (by kernel_rfl)⟩ (puo (.bool true) ⟨(by kernel_rfl), (by kernel_rfl)⟩ (puo (iv lf) ⟨(by kernel_rfl), (by kernel_rfl)⟩ (seq_on (by kernel_rfl) (s_gtr rfl rfl ?_ ?_)))))))))
             ·intro h53
              exact absurd h53 (t_tr rfl)
             ·intro h54
              refine puo (.bool false) ⟨(by kernel_rfl), (by kernel_rfl)⟩ (pu (.bool false) (by kernel_rfl) (seq_nil ?_))
              exact ⟨rfl, ⟨rfl, rfl, rfl, rfl, rfl, rfl, trivial⟩, hI.pickL [0, 1, 2, 3, 4, 5, 6, 7, 8] (by decide) rfl⟩
           ·
            subst h50
            exact Bool.noConfusion (t_oy h49)
          ·intro h55
           refine puo (.bool false) ⟨(by kernel_rfl), (by kernel_rfl)⟩ (of_ (by kernel_rfl) (of_ (by kernel_rfl) (puo (.bool false) ⟨(by kernel_rfl), (by kernel_rfl)⟩ (pu (.bool false) (by kernel_rfl) (pu (.bool false) (by kernel_rfl) (puo (iv ((openC pm (15 + (n0 % 130)) 20).1)) ⟨(by kernel_rfl), (by kernel_rfl)⟩ (seq_on (by kernel_rfl) (s_eql rfl rfl ?_ ?_))))))))
           ·intro h56
            refine puo (.bool true) ⟨(by kernel_rfl), (by kernel_rfl)⟩ ?_
            rcases Bool.eq_false_or_eq_true tf with h57 | h57
            ·
             subst h57
             exact Bool.noConfusion (t_on h56)
            ·
             subst h57
             refine puo (.bool false) ⟨(by kernel_rfl), (by kernel_rfl)⟩ (puo (.bool false) ⟨(by kernel_rfl), (by kernel_rfl)⟩ (pu (.bool false) (by kernel_rfl) (pu (.bool false) (by kernel_rfl) (puo (.bool false) ⟨(by kernel_rfl), (by kernel_rfl)⟩ (puo (.bool false) ⟨(by kernel_rfl), (by kernel_rfl)⟩ (of_ (by kernel_rfl) (of_ (by kernel_rfl) (puo (.bool false) ⟨(by kernel_rfl), (by kernel_rfl)⟩ (pu (.bool false) (by kernel_rfl) ?_)))))))))
             refine seq_nil ?_
             exact ⟨rfl, ⟨rfl, rfl, rfl, rfl, rfl, rfl, trivial⟩, hI.pickL [0, 1, 2, 3, 4, 5, 6, 7, 8] (by decide) rfl⟩
           ·intro h58
            refine puo (.bool false) ⟨(by kernel_rfl), (by kernel_rfl)⟩ (of_ (by kernel_rfl) (puo (.bool false) ⟨(by kernel_rfl), (by kernel_rfl)⟩ (pu (.bool false) (by kernel_rfl) (pu (.bool false) (by kernel_rfl) ?_))))
            rcases Bool.eq_false_or_eq_true tf with h59 | h59
            ·
             subst h59
             refine puo (.bool true) ⟨(by kernel_rfl), (by kernel_rfl)⟩ (puo (.bool true) ⟨(by kernel_rfl), (by kernel_rfl)⟩ (puo (iv lf) ⟨(by kernel_rfl), (by kernel_rfl)⟩ (seq_on (by kernel_rfl) (s_gtr rfl rfl ?_ ?_))))
             ·intro h60
              exact absurd h60 (t_tr rfl)
             ·intro h61
              refine puo (.bool false) ⟨(by kernel_rfl), (by kernel_rfl)⟩ (pu (.bool false) (by kernel_rfl) (seq_nil ?_))
              exact ⟨rfl, ⟨rfl, rfl, rfl, rfl, rfl, rfl, trivial⟩, hI.pickL [0, 1, 2, 3, 4, 5, 6, 7, 8] (by decide) rfl⟩
            ·
             subst h59
             refine puo (.bool false) ⟨(by kernel_rfl), (by kernel_rfl)⟩ (puo (.bool false) ⟨(by kernel_rfl), (by kernel_rfl)⟩ (of_ (by kernel_rfl) (of_ (by kernel_rfl) (puo (.bool false) ⟨(by kernel_rfl), (by kernel_rfl)⟩ (pu (.bool false) (by kernel_rfl) (seq_nil ?_))))))
             exact ⟨rfl, ⟨rfl, rfl, rfl, rfl, rfl, rfl, trivial⟩, hI.pickL [0, 1, 2, 3, 4, 5, 6, 7, 8] (by decide) rfl⟩
     ·rintro ρ w ⟨hag, hI⟩
      obtain ⟨ρ, rfl⟩ := hag.form; clear hag
      refine wp_condF rfl (wp_skip (wp_seq (wp_cut (fun ρ w => Agree ρ [(6, .pointer (some ⟨b18, 0, none⟩)), (7, .pointer (some ⟨b19, 0, none⟩)), (164, .bool false)] ∧ Inv none w0 w [(some b21, blk [iv (firstC pm 20).1.lo, iv (firstC pm 20).1.hi] 23), (some b20, blk [iv ((stoodC pm (15 + (n0 % 130)) 20).1.lo), iv ((stoodC pm (15 + (n0 % 130)) 20).1.hi)] 23), (some b19, blk [iv (q0 % 200), slv g14 tk.length c15] 57), (some b18, blk [iv pm.lo, iv pm.hi, slv g2 pm.loads.length c3, slv g6 pm.stands.length c7, slv g10 pm.spells.length c11, iv pm.geese] 28), (g2, blk cl4 30), (g6, blk cl8 31), (g10, blk cl12 33), (g14, blk cl16 3), (some b1, blk [iv q0, iv q1, .slice rA1 rn1 rc1, .slice rA2 rn2 rc2, .slice rA3 rn3 rc3] 78)]) ?_ ?_)))
      ·
       refine rgn (by kernel_rfl) (pu (iv lf) (by kernel_rfl) (seq_c (s_eql rfl rfl ?_ ?_)))
       ·intro h62
        refine pu (.bool true) (by kernel_rfl) (puo (iv (15 + (n0 % 130))) ⟨(by kernel_rfl), (by kernel_rfl)⟩ (puo (.pointer (some ⟨b21, 0, none⟩)) ⟨(by kernel_rfl), (by kernel_rfl)⟩ (seq_on (by kernel_rfl) (s_load1 hI 0 (iv (firstC pm 20).1.lo) Tryz.isAgg3 rfl rfl rfl ?_))))
        refine seq_on (by kernel_rfl) (s_lss rfl rfl ?_ ?_)
        ·intro h63
         exact absurd h63 (t_f1 h62)
        ·intro h64
         refine pu (.bool false) (by kernel_rfl) (pu (.bool false) (by kernel_rfl) (puo (iv lf) ⟨(by kernel_rfl), (by kernel_rfl)⟩ (seq_on (by kernel_rfl) (s_gtr rfl rfl ?_ ?_))))
         ·intro h65
          exact absurd h65 (by omega)
         ·intro h66
          refine puo (.bool false) ⟨(by kernel_rfl), (by kernel_rfl)⟩ (of_ (by kernel_rfl) (of_ (by kernel_rfl) (of_ (by kernel_rfl) (of_ (by kernel_rfl) (puo (.bool false) ⟨(by kernel_rfl), (by kernel_rfl)⟩ (pu (.bool false) (by kernel_rfl) (seq_nil ?_)))))))
          exact ⟨rfl, ⟨rfl, rfl, rfl, trivial⟩, hI.pickL [0, 1, 2, 3, 4, 5, 6, 7, 8] (by decide) rfl⟩
       ·intro h67
        refine pu (.bool false) (by kernel_rfl) (of_ (by kernel_rfl) (of_ (by kernel_rfl) (of_ (by kernel_rfl) (of_ (by kernel_rfl) (pu (.bool false) (by kernel_rfl) (pu (.bool false) (by kernel_rfl) (puo (iv lf) ⟨(by kernel_rfl), (by kernel_rfl)⟩ (seq_on (by kernel_rfl) (s_gtr rfl rfl ?_ ?_)))))))))
        ·intro h68
         refine puo (.bool true) ⟨(by kernel_rfl), (by kernel_rfl)⟩ (puo (iv (15 + (n0 % 130))) ⟨(by kernel_rfl), (by kernel_rfl)⟩ (puo (.pointer (some ⟨b21, 1, none⟩)) ⟨(by kernel_rfl), (by kernel_rfl)⟩ (seq_on (by kernel_rfl) (s_load1 hI 0 (iv (firstC pm 20).1.hi) Tryz.isAgg3 rfl rfl rfl ?_))))
         refine seq_on (by kernel_rfl) (s_geq rfl rfl ?_ ?_)
         ·intro h69
          exact absurd h69 (t_f2 h68)
         ·intro h70
          refine puo (.bool false) ⟨(by kernel_rfl), (by kernel_rfl)⟩ (pu (.bool false) (by kernel_rfl) (seq_nil ?_))
          exact ⟨rfl, ⟨rfl, rfl, rfl, trivial⟩, hI.pickL [0, 1, 2, 3, 4, 5, 6, 7, 8] (by decide) rfl⟩
        ·intro h71
         refine puo (.bool false) ⟨(by kernel_rfl), (by kernel_rfl)⟩ (of_ (by kernel_rfl) (of_ (by kernel_rfl) (of_ (by kernel_rfl) (of_ (by kernel_rfl) (puo (.bool false) ⟨(by kernel_rfl), (by kernel_rfl)⟩ (pu (.bool false) (by kernel_rfl) (seq_nil ?_)))))))
         exact ⟨rfl, ⟨rfl, rfl, rfl, trivial⟩, hI.pickL [0, 1, 2, 3, 4, 5, 6, 7, 8] (by decide) rfl⟩
      ·rintro ρ w ⟨hag, hI⟩
       obtain ⟨ρ, rfl⟩ := hag.form; clear hag
       refine wp_condF rfl (wp_skip (wp_seq (wp_seq (rgn (by kernel_rfl) (pu (iv 0) (by kernel_rfl) (seq_nil (wp_block ?_)))))))
       refine wp_loop (fun m ρ w => ∃ (k : Nat), Agree ρ [(6, .pointer (some ⟨b18, 0, none⟩)), (7, .pointer (some ⟨b19, 0, none⟩)), (20, iv (k : Int))] ∧ Inv none w0 w [(some b21, blk [iv (firstC pm 20).1.lo, iv (firstC pm 20).1.hi] 23), (some b20, blk [iv ((stoodC pm (15 + (n0 % 130)) 20).1.lo), iv ((stoodC pm (15 + (n0 % 130)) 20).1.hi)] 23), (some b19, blk [iv (q0 % 200), slv g14 tk.length c15] 57), (some b18, blk [iv pm.lo, iv pm.hi, slv g2 pm.loads.length c3, slv g6 pm.stands.length c7, slv g10 pm.spells.length c11, iv pm.geese] 28), (g2, blk cl4 30), (g6, blk cl8 31), (g10, blk cl12 33), (g14, blk cl16 3), (some b1, blk [iv q0, iv q1, .slice rA1 rn1 rc1, .slice rA2 rn2 rc2, .slice rA3 rn3 rc3] 78)] ∧ (k ≤ pm.loads.length) ∧ m = pm.loads.length - k) (m := pm.loads.length - 0) ⟨0, ⟨rfl, rfl, rfl, trivial⟩, hI.pickL [0, 1, 2, 3, 4, 5, 6, 7, 8] (by decide) rfl, (by omega), rfl⟩ ?_
       rintro m ρ w ⟨k, hag, hI, hk, hm⟩
       obtain ⟨ρ, rfl⟩ := hag.form; clear hag
       refine wp_seq (wp_seq (rgn (by kernel_rfl) (pu (iv (k : Int)) (by kernel_rfl) (pu (.pointer (some ⟨b18, 2, none⟩)) (by kernel_rfl) (seq_c (s_load1 hI 3 (slv g2 pm.loads.length c3) Tryz.isAgg24 rfl rfl rfl ?_))))))
       refine pu (iv ((pm.loads.length : Nat) : Int)) (by kernel_rfl) (seq_c (s_lss rfl rfl ?_ ?_))
       ·intro h72
        refine seq_nil (wp_condT rfl (wp_skip (wp_seq (wp_block ?_))))
        obtain ⟨x22, hx23⟩ := get_lt (l := pm.loads) (i := k) (by omega)
        obtain ⟨b24, rfl, he25⟩ := r5.at_ eLd_len (by decide) hx23
        refine wp_cut (fun ρ w => ∃ (b26 : Nat), Agree ρ [(6, .pointer (some ⟨b18, 0, none⟩)), (7, .pointer (some ⟨b19, 0, none⟩)), (20, iv (k : Int)), (21, .pointer (some ⟨b26, 0, none⟩)), (22, iv ((cartedC pm x22.src 20).2))] ∧ Inv none w0 w [(some b26, blk [iv ((cartedC pm x22.src 20).1.lo), iv ((cartedC pm x22.src 20).1.hi)] 23), (some b21, blk [iv (firstC pm 20).1.lo, iv (firstC pm 20).1.hi] 23), (some b20, blk [iv ((stoodC pm (15 + (n0 % 130)) 20).1.lo), iv ((stoodC pm (15 + (n0 % 130)) 20).1.hi)] 23), (some b19, blk [iv (q0 % 200), slv g14 tk.length c15] 57), (some b18, blk [iv pm.lo, iv pm.hi, slv (some b24) pm.loads.length c3, slv g6 pm.stands.length c7, slv g10 pm.spells.length c11, iv pm.geese] 28), (some b24, blk cl4 30), (g6, blk cl8 31), (g10, blk cl12 33), (g14, blk cl16 3), (some b1, blk [iv q0, iv q1, .slice rA1 rn1 rc1, .slice rA2 rn2 rc2, .slice rA3 rn3 rc3] 78)]) ?_ ?_
        ·
         refine wp_drawn2 hI [0, 1, 2, 3, 4, 5, 6, 7, 8] (by decide) rfl (by kernel_rfl) (by kernel_rfl) ?_
         intro hsub
         refine al_light 0 (.agg #[iv pm.lo, iv pm.hi, slv (some b24) pm.loads.length c3, slv g6 pm.stands.length c7, slv g10 pm.spells.length c11, iv pm.geese]) hsub rfl (by kernel_rfl) (fun w hI => s_loadK hI 3 6 [iv pm.lo, iv pm.hi, slv (some b24) pm.loads.length c3, slv g6 pm.stands.length c7, slv g10 pm.spells.length c11, iv pm.geese] Tryz.isAgg28 Tryz.sizeOf28 rfl rfl rfl rfl ⟨rfl, Below.refl _ _⟩) ?_
         refine alp 1 (.pointer (some ⟨b18, 2, none⟩)) hsub rfl (by kernel_rfl) (fun _ => (by kernel_rfl)) ?_
         refine al_light 2 (slv (some b24) pm.loads.length c3) hsub rfl (by kernel_rfl) (fun w hI => s_load1 hI 3 (slv (some b24) pm.loads.length c3) Tryz.isAgg24 rfl rfl rfl ⟨rfl, Below.refl _ _⟩) ?_
         refine alp 3 (iv (k : Int)) hsub rfl (by kernel_rfl) (fun _ => (by kernel_rfl)) ?_
         refine al_light 4 (.pointer (some ⟨b24, k * 6, none⟩)) hsub rfl (by kernel_rfl) (fun w hI => s_indexR k Tryz.underlying24 Tryz.sizeOf30 rfl rfl rfl (by omega) ⟨rfl, Below.refl _ _⟩) ?_
         refine alp 5 (.pointer (some ⟨b24, k * 6, none⟩)) hsub rfl (by kernel_rfl) (fun _ => (by kernel_rfl)) ?_
         refine al_light 6 (iv x22.src) hsub rfl (by kernel_rfl) (fun w hI => s_loadR1 hI 4 (iv x22.src) Tryz.isAgg3 rfl rfl (he25 0 _ rfl) ⟨rfl, Below.refl _ _⟩) ?_
         refine al_light 7 (.tuple #[.agg #[iv ((cartedC pm x22.src 20).1.lo), iv ((cartedC pm x22.src 20).1.hi)], iv ((cartedC pm x22.src 20).2)]) hsub rfl (by kernel_rfl) (fun w hI => s_call 38 [.agg #[iv pm.lo, iv pm.hi, slv (some b24) pm.loads.length c3, slv g6 pm.stands.length c7, slv g10 pm.spells.length c11, iv pm.geese], iv x22.src, iv 20] (by kernel_rfl) (Carted_c _ pm ((some b24).map fun b => ⟨b, 0, none⟩) pm.loads.length c3 (g6.map fun b => ⟨b, 0, none⟩) pm.stands.length c7 (g10.map fun b => ⟨b, 0, none⟩) pm.spells.length c11 ⟨(hI.rowCells 4 rfl r5), rfl, (hI.rowCells 5 rfl r9), rfl, (hI.rowCells 6 rfl r13), rfl, r5.big_3, r9.big_3, r13.big_3⟩ x22.src 20 hn19) (fun v' w' h => h)) ?_
         refine alp 8 (.tuple #[.agg #[iv ((cartedC pm x22.src 20).1.lo), iv ((cartedC pm x22.src 20).1.hi)], iv ((cartedC pm x22.src 20).2)]) hsub rfl (by kernel_rfl) (fun _ => (by kernel_rfl)) ?_
         refine alp 9 (.agg #[iv ((cartedC pm x22.src 20).1.lo), iv ((cartedC pm x22.src 20).1.hi)]) hsub rfl (by kernel_rfl) (fun _ => (by kernel_rfl)) ?_
         refine alp 10 (iv ((cartedC pm x22.src 20).2)) hsub rfl (by kernel_rfl) (fun _ => (by kernel_rfl)) ?_
         refine any_heavy [11] (by kernel_rfl) rfl (each1 ?_)
         intro w hI
         refine ol_c rfl (s_allocI hI [iv 0, iv 0] Tryz.zeroValue23 rfl ?_)
         intro b26 w hI
         refine ⟨_, hI, subk (fun _ h => h.pickL [1, 2, 3, 4, 5, 6, 7, 8, 9] (by decide) rfl) ?_⟩
         intro hsub
         refine any_heavy [12] (by kernel_rfl) rfl (each1 ?_)
         intro w hI
         refine ol_c rfl (s_store hI 0 2 [iv ((cartedC pm x22.src 20).1.lo), iv ((cartedC pm x22.src 20).1.hi)] Tryz.sizeOf23 rfl rfl rfl rfl rfl (Nat.le_of_ble_eq_true rfl) ?_)
         intro w hI
         refine ⟨_, hI, subk (fun _ h => h.pickL [1, 2, 3, 4, 5, 6, 7, 8, 9] (by decide) rfl) ?_⟩
         intro hsub
         refine alp 13 (iv ((cartedC pm x22.src 20).2)) hsub rfl (by kernel_rfl) (fun _ => (by kernel_rfl)) ?_
         refine any_end (by kernel_rfl) (fun w hI => ?_)
         exact ⟨rfl, b26, ⟨rfl, rfl, rfl, rfl, rfl, trivial⟩, hI.pickL [0, 1, 2, 3, 4, 5, 6, 7, 8, 9] (by decide) rfl⟩
        ·rintro ρ w ⟨b26, hag, hI⟩
         obtain ⟨ρ, rfl⟩ := hag.form; clear hag
         obtain ⟨x27, hx28⟩ := get_lt (l := tk) (i := k) (by omega)
         obtain ⟨b29, rfl, he30⟩ := r17.at_ eInt_len (by decide) hx28
         refine wp_cut (fun ρ w => Agree ρ [(6, .pointer (some ⟨b18, 0, none⟩)), (7, .pointer (some ⟨b19, 0, none⟩)), (20, iv (k : Int)), (204, .bool false)] ∧ Inv none w0 w [(some b26, blk [iv ((cartedC pm x22.src 20).1.lo), iv ((cartedC pm x22.src 20).1.hi)] 23), (some b21, blk [iv (firstC pm 20).1.lo, iv (firstC pm 20).1.hi] 23), (some b20, blk [iv ((stoodC pm (15 + (n0 % 130)) 20).1.lo), iv ((stoodC pm (15 + (n0 % 130)) 20).1.hi)] 23), (some b19, blk [iv (q0 % 200), slv (some b29) tk.length c15] 57), (some b18, blk [iv pm.lo, iv pm.hi, slv (some b24) pm.loads.length c3, slv g6 pm.stands.length c7, slv g10 pm.spells.length c11, iv pm.geese] 28), (some b24, blk cl4 30), (g6, blk cl8 31), (g10, blk cl12 33), (some b29, blk cl16 3), (some b1, blk [iv q0, iv q1, .slice rA1 rn1 rc1, .slice rA2 rn2 rc2, .slice rA3 rn3 rc3] 78)]) ?_ ?_
         ·
          refine wp_drawn2 hI [0, 1, 2, 3, 4, 5, 6, 7, 8, 9] (by decide) rfl (by kernel_rfl) (by kernel_rfl) ?_
          intro hsub
          refine alp 0 (iv ((cartedC pm x22.src 20).2)) hsub rfl (by kernel_rfl) (fun _ => (by kernel_rfl)) ?_
          have h73 : ((cartedC pm x22.src 20).2) = 0 := Classical.not_not.1 (not_not_intro (hTo.ce _ _ hx23))
          refine al_light 1 (.bool false) hsub rfl (by kernel_rfl) (fun w hI => s_neq rfl rfl (fun h => absurd h73 h) (fun _ => ⟨rfl, Below.refl _ _⟩)) ?_
          refine alp 2 (.bool false) hsub rfl (by kernel_rfl) (fun _ => (by kernel_rfl)) ?_
          refine al_on 3 (.pointer (some ⟨b19, 1, none⟩)) hsub rfl (by kernel_rfl) (by kernel_rfl) (fun w hI => s_pure (.pointer (some ⟨b19, 1, none⟩)) (by kernel_rfl) ⟨rfl, Below.refl _ _⟩) ?_
          refine al_on 4 (slv (some b29) tk.length c15) hsub rfl (by kernel_rfl) (by kernel_rfl) (fun w hI => s_load1 hI 3 (slv (some b29) tk.length c15) Tryz.isAgg41 rfl rfl rfl ⟨rfl, Below.refl _ _⟩) ?_
          refine al_on 5 (iv (k : Int)) hsub rfl (by kernel_rfl) (by kernel_rfl) (fun w hI => s_pure (iv (k : Int)) (by kernel_rfl) ⟨rfl, Below.refl _ _⟩) ?_
          refine al_on 6 (.pointer (some ⟨b29, k * 1, none⟩)) hsub rfl (by kernel_rfl) (by kernel_rfl) (fun w hI => s_indexR k Tryz.underlying41 Tryz.sizeOf3 rfl rfl rfl (by omega) ⟨rfl, Below.refl _ _⟩) ?_
          refine al_on 7 (iv x27) hsub rfl (by kernel_rfl) (by kernel_rfl) (fun w hI => s_loadR1 hI 8 (iv x27) Tryz.isAgg3 rfl rfl (he30 0 _ rfl) ⟨rfl, Below.refl _ _⟩) ?_
          refine al_on 8 (.pointer (some ⟨b26, 0, none⟩)) hsub rfl (by kernel_rfl) (by kernel_rfl) (fun w hI => s_pure (.pointer (some ⟨b26, 0, none⟩)) (by kernel_rfl) ⟨rfl, Below.refl _ _⟩) ?_
          refine al_on 9 (iv ((cartedC pm x22.src 20).1.lo)) hsub rfl (by kernel_rfl) (by kernel_rfl) (fun w hI => s_load1 hI 0 (iv ((cartedC pm x22.src 20).1.lo)) Tryz.isAgg3 rfl rfl rfl ⟨rfl, Below.refl _ _⟩) ?_
          have h74 : ¬ x27 < ((cartedC pm x22.src 20).1.lo) := (hTo.clo _ _ _ hx23 hx28)
          refine al_on 10 (.bool false) hsub rfl (by kernel_rfl) (by kernel_rfl) (fun w hI => s_lss rfl rfl (fun h => absurd h h74) (fun _ => ⟨rfl, Below.refl _ _⟩)) ?_
          refine alp 11 (.bool false) hsub rfl (by kernel_rfl) (fun _ => (by kernel_rfl)) ?_
          refine alp 12 (.bool false) hsub rfl (by kernel_rfl) (fun _ => (by kernel_rfl)) ?_
          refine al_on 13 (.pointer (some ⟨b19, 1, none⟩)) hsub rfl (by kernel_rfl) (by kernel_rfl) (fun w hI => s_pure (.pointer (some ⟨b19, 1, none⟩)) (by kernel_rfl) ⟨rfl, Below.refl _ _⟩) ?_
          refine al_on 14 (slv (some b29) tk.length c15) hsub rfl (by kernel_rfl) (by kernel_rfl) (fun w hI => s_load1 hI 3 (slv (some b29) tk.length c15) Tryz.isAgg41 rfl rfl rfl ⟨rfl, Below.refl _ _⟩) ?_
          refine al_on 15 (iv (k : Int)) hsub rfl (by kernel_rfl) (by kernel_rfl) (fun w hI => s_pure (iv (k : Int)) (by kernel_rfl) ⟨rfl, Below.refl _ _⟩) ?_
          refine al_on 16 (.pointer (some ⟨b29, k * 1, none⟩)) hsub rfl (by kernel_rfl) (by kernel_rfl) (fun w hI => s_indexR k Tryz.underlying41 Tryz.sizeOf3 rfl rfl rfl (by omega) ⟨rfl, Below.refl _ _⟩) ?_
          refine al_on 17 (iv x27) hsub rfl (by kernel_rfl) (by kernel_rfl) (fun w hI => s_loadR1 hI 8 (iv x27) Tryz.isAgg3 rfl rfl (he30 0 _ rfl) ⟨rfl, Below.refl _ _⟩) ?_
          refine al_on 18 (.pointer (some ⟨b26, 1, none⟩)) hsub rfl (by kernel_rfl) (by kernel_rfl) (fun w hI => s_pure (.pointer (some ⟨b26, 1, none⟩)) (by kernel_rfl) ⟨rfl, Below.refl _ _⟩) ?_
          refine al_on 19 (iv ((cartedC pm x22.src 20).1.hi)) hsub rfl (by kernel_rfl) (by kernel_rfl) (fun w hI => s_load1 hI 0 (iv ((cartedC pm x22.src 20).1.hi)) Tryz.isAgg3 rfl rfl rfl ⟨rfl, Below.refl _ _⟩) ?_
          have h75 : ¬ ((cartedC pm x22.src 20).1.hi) < x27 := (hTo.chi _ _ _ hx23 hx28)
          refine al_on 20 (.bool false) hsub rfl (by kernel_rfl) (by kernel_rfl) (fun w hI => s_gtr rfl rfl (fun h => absurd h h75) (fun _ => ⟨rfl, Below.refl _ _⟩)) ?_
          refine alp 21 (.bool false) hsub rfl (by kernel_rfl) (fun _ => (by kernel_rfl)) ?_
          refine any_end (by kernel_rfl) (fun w hI => ?_)
          exact ⟨rfl, ⟨rfl, rfl, rfl, rfl, trivial⟩, hI.pickL [0, 1, 2, 3, 4, 5, 6, 7, 8, 9] (by decide) rfl⟩
         ·rintro ρ w ⟨hag, hI⟩
          obtain ⟨ρ, rfl⟩ := hag.form; clear hag
          refine wp_condF rfl (wp_skip (rgn (by kernel_rfl) (pu (iv (k : Int)) (by kernel_rfl) (seq_c (s_add rfl rfl (by omega) ?_)))))
          refine pu (iv ((k : Int) + 1)) (by kernel_rfl) (seq_nil ?_)
          exact ⟨rfl, _, (by omega), ⟨k + 1, ⟨rfl, rfl, rfl, trivial⟩, hI.pickL [1, 2, 3, 4, 5, 6, 7, 8, 9] (by decide) rfl, (by omega), rfl⟩⟩
       ·intro h76
        refine seq_nil (wp_condF rfl (wp_exit ?_))
        refine wp_seq (rgn (by kernel_rfl) (pu (.bool true) (by kernel_rfl) (seq_nil (wp_ret ?_))))
        exact ⟨.bool true, Ret.r1 rfl rfl, ⟨rfl, hI.below⟩⟩

end Go.K
