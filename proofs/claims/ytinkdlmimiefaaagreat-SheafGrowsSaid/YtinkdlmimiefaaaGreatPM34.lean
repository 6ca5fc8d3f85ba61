/- The law of hours: the walk. -/
import Derived.Test.YtinkdlmimiefaaaGreatProg
import Derived.Test.YtinkdlmimiefaaaGreatPM33
import Derived.Test.YtinkdlmimiefaaaGreatPXS
namespace Go.K
open Go.Proofs Go.RowKit
set_option linter.unusedVariables false
set_option linter.unusedSimpArgs false
set_option maxRecDepth 100000
attribute [local irreducible] Seq Step CallV AnyE opX

theorem made_few (x0 x1 : Int) (ls ss ps : List A4) : (madeF x0 x1 ls ss ps).loads.length < 20 := by
  show (List.map Prod.fst (mLoads 0 20 (x0 % 200) (ls.take 6))).length < 20
  rw [List.length_map, mLoads_len, List.length_take]
  omega
theorem Row.big_ {k : Nat} {g : Option Nat} {n c : Nat} {cl xs : List Value} (h : Row k g n c cl xs) : n ≤ 9223372036854775807 := Nat.le_trans h.cap (by have := h.capmax; unfold maxLen at this; omega)

set_option maxHeartbeats 3200000 in
theorem SheafGrows_c (w0 : World) (q0 q1 : Int) (hq0 : -9223372036854775808 ≤ q0 ∧ q0 ≤ 9223372036854775807) (rA1 : Option Addr) (rn1 rc1 : Nat) (rA2 : Option Addr) (rn2 rc2 : Nat) (rA3 : Option Addr) (rn3 rc3 : Nat) (ls ss ps : List A4) (hC1 : Cells w0 rA1 (flat eA4 ls)) (hn1 : rn1 = ls.length) (hx1_ : rn1 ≤ 9223372036854775807) (hC2 : Cells w0 rA2 (flat eA4 ss)) (hn2 : rn2 = ss.length) (hx2_ : rn2 ≤ 9223372036854775807) (hC3 : Cells w0 rA3 (flat eA4 ps)) (hn3 : rn3 = ps.length) (hx3_ : rn3 ≤ 9223372036854775807) (hok_ls : ∀ r ∈ ls, A4Ok r) (hok_ss : ∀ r ∈ ss, A4Ok r) (n0 n1 n2 : Int) : Does Tryz.prog 10 [.agg #[.int .i64 q0, .int .i64 q1, .slice rA1 rn1 rc1, .slice rA2 rn2 rc2, .slice rA3 rn3 rc3], .agg #[.int .i64 n0, .int .i64 n1, .int .i64 n2]] w0 fun v w => v = .bool true ∧ Below w0.heap.size w0 w := by
 refine calls_of (n := 121) Tryz.func10 rfl Tryz.ntmps10 rfl ?_
 have hI := Inv.start w0
 refine wp_seq (rgn (by kernel_rfl) (seq_c (s_boxI hI [iv q0, iv q1, .slice rA1 rn1 rc1, .slice rA2 rn2 rc2, .slice rA3 rn3 rc3] rfl ?_)))
 intro b1 w hI
 refine seq_c (s_boxI hI [iv n0, iv n1, iv n2] rfl ?_)
 intro b2 w hI
 refine pu (.bool false) (by kernel_rfl) (seq_nil (wp_seq (rgn (by kernel_rfl) (seq_c (s_callv hI 13 [] (.bool true) (by kernel_rfl) (sane_c _) ?_)))))
 intro w hI
 refine pu (.bool true) (by kernel_rfl) (seq_nil (wp_seq (rgn (by kernel_rfl) (seq_c (s_loadK hI 1 5 [iv q0, iv q1, .slice rA1 rn1 rc1, .slice rA2 rn2 rc2, .slice rA3 rn3 rc3] Tryz.isAgg78 Tryz.sizeOf78 rfl rfl rfl rfl ?_)))))
 obtain ⟨pm, hpm⟩ : ∃ z, z = madeF q0 q1 ls ss ps := ⟨_, rfl⟩
 obtain ⟨tk, htk⟩ : ∃ z, z = ((mLoads 0 20 (q0 % 200) (ls.take 6)).map Prod.snd) := ⟨_, rfl⟩
 have hG : Grows pm 20 (n0 % 130) (n0 % 130 + n1 % 60) := by rw [hpm]; exact made_grows q0 q1 ls ss ps (by simp [isHourB]; omega) (by simp [isHourB]; omega) (by omega)
 have hn19 : pm.loads.length < 20 := by rw [hpm]; exact made_few q0 q1 ls ss ps
 refine seq_c (s_callMade hI (q := pm) (t := q0 % 200) (l := tk) 57 [.agg #[iv q0, iv q1, .slice rA1 rn1 rc1, .slice rA2 rn2 rc2, .slice rA3 rn3 rc3], .bool true] (by kernel_rfl) (by rw [hpm, htk]; exact Made_c _ q0 q1 hq0 rA1 rn1 rc1 rA2 rn2 rc2 rA3 rn3 rc3 ls ss ps (hC1.inv0 hI) hn1 hx1_ (hC2.inv0 hI) hn2 hx2_ (hC3.inv0 hI) hn3 hx3_ hok_ls hok_ss) ?_)
 intro g3 c4 cl5 g7 c8 cl9 g11 c12 cl13 g15 c16 cl17 w hI r6 r10 r14 r18
 refine pu (.tuple #[.agg #[iv pm.lo, iv pm.hi, slv g3 pm.loads.length c4, slv g7 pm.stands.length c8, slv g11 pm.spells.length c12, iv pm.geese], .agg #[iv (q0 % 200), slv g15 tk.length c16]]) (by kernel_rfl) (pu (.agg #[iv pm.lo, iv pm.hi, slv g3 pm.loads.length c4, slv g7 pm.stands.length c8, slv g11 pm.spells.length c12, iv pm.geese]) (by kernel_rfl) (pu (.agg #[iv (q0 % 200), slv g15 tk.length c16]) (by kernel_rfl) (seq_c (s_allocI hI [iv 0, iv 0, .slice none 0 0, .slice none 0 0, .slice none 0 0, iv 0] Tryz.zeroValue28 rfl ?_))))
 intro b19 w hI
 refine seq_c (s_allocI hI [iv 0, .slice none 0 0] Tryz.zeroValue57 rfl ?_)
 intro b20 w hI
 refine seq_c (s_store hI 1 6 [iv pm.lo, iv pm.hi, slv g3 pm.loads.length c4, slv g7 pm.stands.length c8, slv g11 pm.spells.length c12, iv pm.geese] Tryz.sizeOf28 rfl rfl rfl rfl rfl (Nat.le_of_ble_eq_true rfl) ?_)
 intro w hI
 refine seq_c (s_store hI 0 2 [iv (q0 % 200), slv g15 tk.length c16] Tryz.sizeOf57 rfl rfl rfl rfl rfl (Nat.le_of_ble_eq_true rfl) ?_)
 intro w hI
 refine seq_nil (wp_seq (rgn (by kernel_rfl) (pu (.pointer (some ⟨b2, 0, none⟩)) (by kernel_rfl) (seq_c (s_load1 hI 6 (iv n0) Tryz.isAgg3 rfl rfl rfl ?_)))))
 refine seq_c (s_callv hI 58 [iv n0, iv 130] (iv (n0 % 130)) (by kernel_rfl) (ModC n0 130  (by omega) _) ?_)
 intro w hI
 refine pu (iv (n0 % 130)) (by kernel_rfl) (seq_nil (wp_seq (rgn (by kernel_rfl) (pu (iv (n0 % 130)) (by kernel_rfl) (pu (.pointer (some ⟨b2, 1, none⟩)) (by kernel_rfl) (seq_c (s_load1 hI 6 (iv n1) Tryz.isAgg3 rfl rfl rfl ?_)))))))
 refine seq_c (s_callv hI 58 [iv n1, iv 60] (iv (n1 % 60)) (by kernel_rfl) (ModC n1 60  (by omega) _) ?_)
 intro w hI
 refine seq_c (s_add rfl rfl (by omega) ?_)
 refine pu (iv ((n0 % 130) + (n1 % 60))) (by kernel_rfl) (seq_nil (wp_seq (rgn (by kernel_rfl) (seq_c (s_loadK hI 1 6 [iv pm.lo, iv pm.hi, slv g3 pm.loads.length c4, slv g7 pm.stands.length c8, slv g11 pm.spells.length c12, iv pm.geese] Tryz.isAgg28 Tryz.sizeOf28 rfl rfl rfl rfl ?_)))))
 refine pu (iv (n0 % 130)) (by kernel_rfl) (seq_c (s_callv hI 36 [.agg #[iv pm.lo, iv pm.hi, slv g3 pm.loads.length c4, slv g7 pm.stands.length c8, slv g11 pm.spells.length c12, iv pm.geese], iv (n0 % 130), iv 20] (.tuple #[.agg #[iv ((stoodC pm (n0 % 130) 20).1.lo), iv ((stoodC pm (n0 % 130) 20).1.hi)], iv ((stoodC pm (n0 % 130) 20).2)]) (by kernel_rfl) (Stood_c _ pm (g3.map fun b => ⟨b, 0, none⟩) pm.loads.length c4 (g7.map fun b => ⟨b, 0, none⟩) pm.stands.length c8 (g11.map fun b => ⟨b, 0, none⟩) pm.spells.length c12 ⟨(hI.rowCells 2 rfl r6), rfl, (hI.rowCells 3 rfl r10), rfl, (hI.rowCells 4 rfl r14), rfl, r6.big_, r10.big_, r14.big_⟩ (n0 % 130) 20 (by omega)) ?_))
 intro w hI
 refine pu (.tuple #[.agg #[iv ((stoodC pm (n0 % 130) 20).1.lo), iv ((stoodC pm (n0 % 130) 20).1.hi)], iv ((stoodC pm (n0 % 130) 20).2)]) (by kernel_rfl) (pu (.agg #[iv ((stoodC pm (n0 % 130) 20).1.lo), iv ((stoodC pm (n0 % 130) 20).1.hi)]) (by kernel_rfl) (pu (iv ((stoodC pm (n0 % 130) 20).2)) (by kernel_rfl) (seq_c (s_allocI hI [iv 0, iv 0] Tryz.zeroValue23 rfl ?_))))
 intro b21 w hI
 refine seq_c (s_store hI 0 2 [iv ((stoodC pm (n0 % 130) 20).1.lo), iv ((stoodC pm (n0 % 130) 20).1.hi)] Tryz.sizeOf23 rfl rfl rfl rfl rfl (Nat.le_of_ble_eq_true rfl) ?_)
 intro w hI
 refine pu (iv ((stoodC pm (n0 % 130) 20).2)) (by kernel_rfl) (seq_nil (wp_seq (rgn (by kernel_rfl) (seq_c (s_loadK hI 2 6 [iv pm.lo, iv pm.hi, slv g3 pm.loads.length c4, slv g7 pm.stands.length c8, slv g11 pm.spells.length c12, iv pm.geese] Tryz.isAgg28 Tryz.sizeOf28 rfl rfl rfl rfl ?_)))))
 refine pu (iv ((n0 % 130) + (n1 % 60))) (by kernel_rfl) (seq_c (s_callv hI 36 [.agg #[iv pm.lo, iv pm.hi, slv g3 pm.loads.length c4, slv g7 pm.stands.length c8, slv g11 pm.spells.length c12, iv pm.geese], iv ((n0 % 130) + (n1 % 60)), iv 20] (.tuple #[.agg #[iv ((stoodC pm ((n0 % 130) + (n1 % 60)) 20).1.lo), iv ((stoodC pm ((n0 % 130) + (n1 % 60)) 20).1.hi)], iv ((stoodC pm ((n0 % 130) + (n1 % 60)) 20).2)]) (by kernel_rfl) (Stood_c _ pm (g3.map fun b => ⟨b, 0, none⟩) pm.loads.length c4 (g7.map fun b => ⟨b, 0, none⟩) pm.stands.length c8 (g11.map fun b => ⟨b, 0, none⟩) pm.spells.length c12 ⟨(hI.rowCells 3 rfl r6), rfl, (hI.rowCells 4 rfl r10), rfl, (hI.rowCells 5 rfl r14), rfl, r6.big_, r10.big_, r14.big_⟩ ((n0 % 130) + (n1 % 60)) 20 (by omega)) ?_))
 intro w hI
 refine pu (.tuple #[.agg #[iv ((stoodC pm ((n0 % 130) + (n1 % 60)) 20).1.lo), iv ((stoodC pm ((n0 % 130) + (n1 % 60)) 20).1.hi)], iv ((stoodC pm ((n0 % 130) + (n1 % 60)) 20).2)]) (by kernel_rfl) (pu (.agg #[iv ((stoodC pm ((n0 % 130) + (n1 % 60)) 20).1.lo), iv ((stoodC pm ((n0 % 130) + (n1 % 60)) 20).1.hi)]) (by kernel_rfl) (pu (iv ((stoodC pm ((n0 % 130) + (n1 % 60)) 20).2)) (by kernel_rfl) (seq_c (s_allocI hI [iv 0, iv 0] Tryz.zeroValue23 rfl ?_))))
 intro b22 w hI
 refine seq_c (s_store hI 0 2 [iv ((stoodC pm ((n0 % 130) + (n1 % 60)) 20).1.lo), iv ((stoodC pm ((n0 % 130) + (n1 % 60)) 20).1.hi)] Tryz.sizeOf23 rfl rfl rfl rfl rfl (Nat.le_of_ble_eq_true rfl) ?_)
 intro w hI
 refine pu (iv ((stoodC pm ((n0 % 130) + (n1 % 60)) 20).2)) (by kernel_rfl) (seq_nil (wp_seq (rgn (by kernel_rfl) (seq_c (s_loadK hI 3 6 [iv pm.lo, iv pm.hi, slv g3 pm.loads.length c4, slv g7 pm.stands.length c8, slv g11 pm.spells.length c12, iv pm.geese] Tryz.isAgg28 Tryz.sizeOf28 rfl rfl rfl rfl ?_)))))
 refine pu (iv (n0 % 130)) (by kernel_rfl) (seq_c (s_callv hI 45 [.agg #[iv pm.lo, iv pm.hi, slv g3 pm.loads.length c4, slv g7 pm.stands.length c8, slv g11 pm.spells.length c12, iv pm.geese], iv (n0 % 130), iv 20] (.tuple #[iv ((clearC pm (n0 % 130) 20).1), iv ((clearC pm (n0 % 130) 20).2)]) (by kernel_rfl) (Clear_c _ pm (g3.map fun b => ⟨b, 0, none⟩) pm.loads.length c4 (g7.map fun b => ⟨b, 0, none⟩) pm.stands.length c8 (g11.map fun b => ⟨b, 0, none⟩) pm.spells.length c12 ⟨(hI.rowCells 4 rfl r6), rfl, (hI.rowCells 5 rfl r10), rfl, (hI.rowCells 6 rfl r14), rfl, r6.big_, r10.big_, r14.big_⟩ (n0 % 130) 20 (by omega)) ?_))
 intro w hI
 refine pu (.tuple #[iv ((clearC pm (n0 % 130) 20).1), iv ((clearC pm (n0 % 130) 20).2)]) (by kernel_rfl) (pu (iv ((clearC pm (n0 % 130) 20).1)) (by kernel_rfl) (pu (iv ((clearC pm (n0 % 130) 20).2)) (by kernel_rfl) (pu (iv ((clearC pm (n0 % 130) 20).1)) (by kernel_rfl) (pu (iv ((clearC pm (n0 % 130) 20).2)) (by kernel_rfl) (seq_nil (wp_seq (rgn (by kernel_rfl) (seq_c (s_loadK hI 3 6 [iv pm.lo, iv pm.hi, slv g3 pm.loads.length c4, slv g7 pm.stands.length c8, slv g11 pm.spells.length c12, iv pm.geese] Tryz.isAgg28 Tryz.sizeOf28 rfl rfl rfl rfl ?_)))))))))
 refine pu (iv ((n0 % 130) + (n1 % 60))) (by kernel_rfl) (seq_c (s_callv hI 45 [.agg #[iv pm.lo, iv pm.hi, slv g3 pm.loads.length c4, slv g7 pm.stands.length c8, slv g11 pm.spells.length c12, iv pm.geese], iv ((n0 % 130) + (n1 % 60)), iv 20] (.tuple #[iv ((clearC pm ((n0 % 130) + (n1 % 60)) 20).1), iv ((clearC pm ((n0 % 130) + (n1 % 60)) 20).2)]) (by kernel_rfl) (Clear_c _ pm (g3.map fun b => ⟨b, 0, none⟩) pm.loads.length c4 (g7.map fun b => ⟨b, 0, none⟩) pm.stands.length c8 (g11.map fun b => ⟨b, 0, none⟩) pm.spells.length c12 ⟨(hI.rowCells 4 rfl r6), rfl, (hI.rowCells 5 rfl r10), rfl, (hI.rowCells 6 rfl r14), rfl, r6.big_, r10.big_, r14.big_⟩ ((n0 % 130) + (n1 % 60)) 20 (by omega)) ?_))
 intro w hI
 refine pu (.tuple #[iv ((clearC pm ((n0 % 130) + (n1 % 60)) 20).1), iv ((clearC pm ((n0 % 130) + (n1 % 60)) 20).2)]) (by kernel_rfl) (pu (iv ((clearC pm ((n0 % 130) + (n1 % 60)) 20).1)) (by kernel_rfl) (pu (iv ((clearC pm ((n0 % 130) + (n1 % 60)) 20).2)) (by kernel_rfl) (pu (iv ((clearC pm ((n0 % 130) + (n1 % 60)) 20).1)) (by kernel_rfl) (pu (iv ((clearC pm ((n0 % 130) + (n1 % 60)) 20).2)) (by kernel_rfl) (seq_nil (wp_seq (rgn (by kernel_rfl) (seq_c (s_loadK hI 3 6 [iv pm.lo, iv pm.hi, slv g3 pm.loads.length c4, slv g7 pm.stands.length c8, slv g11 pm.spells.length c12, iv pm.geese] Tryz.isAgg28 Tryz.sizeOf28 rfl rfl rfl rfl ?_)))))))))
 refine seq_c (s_callv hI 47 [.agg #[iv pm.lo, iv pm.hi, slv g3 pm.loads.length c4, slv g7 pm.stands.length c8, slv g11 pm.spells.length c12, iv pm.geese], iv 20] (.tuple #[.agg #[iv (firstC pm 20).1.lo, iv (firstC pm 20).1.hi], iv (firstC pm 20).2]) (by kernel_rfl) (First_c _ pm (g3.map fun b => ⟨b, 0, none⟩) pm.loads.length c4 (g7.map fun b => ⟨b, 0, none⟩) pm.stands.length c8 (g11.map fun b => ⟨b, 0, none⟩) pm.spells.length c12 ⟨(hI.rowCells 4 rfl r6), rfl, (hI.rowCells 5 rfl r10), rfl, (hI.rowCells 6 rfl r14), rfl, r6.big_, r10.big_, r14.big_⟩ 20 (by omega)) ?_)
 intro w hI
 refine pu (.tuple #[.agg #[iv (firstC pm 20).1.lo, iv (firstC pm 20).1.hi], iv (firstC pm 20).2]) (by kernel_rfl) (pu (.agg #[iv (firstC pm 20).1.lo, iv (firstC pm 20).1.hi]) (by kernel_rfl) (pu (iv (firstC pm 20).2) (by kernel_rfl) (seq_c (s_allocI hI [iv 0, iv 0] Tryz.zeroValue23 rfl ?_))))
 intro b23 w hI
 refine seq_c (s_store hI 0 2 [iv (firstC pm 20).1.lo, iv (firstC pm 20).1.hi] Tryz.sizeOf23 rfl rfl rfl rfl rfl (Nat.le_of_ble_eq_true rfl) ?_)
 intro w hI
 refine pu (iv (firstC pm 20).2) (by kernel_rfl) (seq_nil (wp_seq (wp_seq (rgn (by kernel_rfl) (pu (.bool true) (by kernel_rfl) (pu (.bool false) (by kernel_rfl) (pu (.bool false) (by kernel_rfl) (puo (iv ((stoodC pm (n0 % 130) 20).2)) ⟨(by kernel_rfl), (by kernel_rfl)⟩ (seq_on (by kernel_rfl) (s_neq rfl rfl ?_ ?_))))))))))
 ·intro h1
  exact absurd h1 (not_not_intro hG.e1)
 ·intro h2
  refine pu (.bool false) (by kernel_rfl) (pu (.bool false) (by kernel_rfl) (puo (iv ((stoodC pm ((n0 % 130) + (n1 % 60)) 20).2)) ⟨(by kernel_rfl), (by kernel_rfl)⟩ (seq_on (by kernel_rfl) (s_neq rfl rfl ?_ ?_))))
  ·intro h3
   exact absurd h3 (not_not_intro hG.e2)
  ·intro h4
   refine pu (.bool false) (by kernel_rfl) (pu (.bool false) (by kernel_rfl) (puo (iv ((clearC pm (n0 % 130) 20).2)) ⟨(by kernel_rfl), (by kernel_rfl)⟩ (seq_on (by kernel_rfl) (s_neq rfl rfl ?_ ?_))))
   ·intro h5
    exact absurd h5 (not_not_intro hG.e3)
   ·intro h6
    refine pu (.bool false) (by kernel_rfl) (pu (.bool false) (by kernel_rfl) (puo (iv ((clearC pm ((n0 % 130) + (n1 % 60)) 20).2)) ⟨(by kernel_rfl), (by kernel_rfl)⟩ (seq_on (by kernel_rfl) (s_neq rfl rfl ?_ ?_))))
    ·intro h7
     exact absurd h7 (not_not_intro hG.e4)
    ·intro h8
     refine pu (.bool false) (by kernel_rfl) (pu (.bool false) (by kernel_rfl) (puo (iv (firstC pm 20).2) ⟨(by kernel_rfl), (by kernel_rfl)⟩ (seq_on (by kernel_rfl) (s_neq rfl rfl ?_ ?_))))
     ·intro h9
      exact absurd h9 (not_not_intro hG.e5)
     ·intro h10
      refine pu (.bool false) (by kernel_rfl) (seq_nil (wp_condF rfl (wp_skip (wp_seq (wp_seq (rgn (by kernel_rfl) (pu (.pointer (some ⟨b22, 0, none⟩)) (by kernel_rfl) (seq_c (s_load1 hI 1 (iv ((stoodC pm ((n0 % 130) + (n1 % 60)) 20).1.lo)) Tryz.isAgg3 rfl rfl rfl ?_)))))))))
      refine pu (.pointer (some ⟨b21, 0, none⟩)) (by kernel_rfl) (seq_c (s_load1 hI 2 (iv ((stoodC pm (n0 % 130) 20).1.lo)) Tryz.isAgg3 rfl rfl rfl ?_))
      refine seq_c (s_gtr rfl rfl ?_ ?_)
      ·intro h11
       exact absurd h11 (Int.not_lt.2 hG.lo)
      ·intro h12
       refine pu (.bool false) (by kernel_rfl) (puo (.pointer (some ⟨b22, 1, none⟩)) ⟨(by kernel_rfl), (by kernel_rfl)⟩ (seq_on (by kernel_rfl) (s_load1 hI 1 (iv ((stoodC pm ((n0 % 130) + (n1 % 60)) 20).1.hi)) Tryz.isAgg3 rfl rfl rfl ?_)))
       refine puo (.pointer (some ⟨b21, 1, none⟩)) ⟨(by kernel_rfl), (by kernel_rfl)⟩ (seq_on (by kernel_rfl) (s_load1 hI 2 (iv ((stoodC pm (n0 % 130) 20).1.hi)) Tryz.isAgg3 rfl rfl rfl ?_))
       refine seq_on (by kernel_rfl) (s_gtr rfl rfl ?_ ?_)
       ·intro h13
        exact absurd h13 (Int.not_lt.2 hG.hi)
       ·intro h14
        refine pu (.bool false) (by kernel_rfl) (pu (.bool false) (by kernel_rfl) (puo (iv ((clearC pm (n0 % 130) 20).1)) ⟨(by kernel_rfl), (by kernel_rfl)⟩ (seq_on (by kernel_rfl) (s_eql rfl rfl ?_ ?_))))
        ·intro h15
         refine puo (.bool true) ⟨(by kernel_rfl), (by kernel_rfl)⟩ (puo (iv ((clearC pm ((n0 % 130) + (n1 % 60)) 20).1)) ⟨(by kernel_rfl), (by kernel_rfl)⟩ (seq_on (by kernel_rfl) (s_neq rfl rfl ?_ ?_)))
         ·intro h16
          exact absurd h16 (not_not_intro (hG.yes h15))
         ·intro h17
          refine puo (.bool false) ⟨(by kernel_rfl), (by kernel_rfl)⟩ (pu (.bool false) (by kernel_rfl) (seq_nil (wp_condF rfl (wp_skip (wp_seq (rgn (by kernel_rfl) (pu (iv ((clearC pm (n0 % 130) 20).1)) (by kernel_rfl) (seq_c (s_eql rfl rfl ?_ ?_)))))))))
          ·intro h18
           refine pu (iv (n0 % 130)) (by kernel_rfl) (pu (.pointer (some ⟨b23, 1, none⟩)) (by kernel_rfl) (seq_c (s_load1 hI 0 (iv (firstC pm 20).1.hi) Tryz.isAgg3 rfl rfl rfl ?_)))
           refine seq_c (s_geq rfl rfl ?_ ?_)
           ·intro h19
            refine pu (.bool true) (by kernel_rfl) (pu (.bool true) (by kernel_rfl) (puo (iv ((clearC pm (n0 % 130) 20).1)) ⟨(by kernel_rfl), (by kernel_rfl)⟩ (seq_on (by kernel_rfl) (s_eql rfl rfl ?_ ?_))))
            ·intro h20
             refine puo (iv (n0 % 130)) ⟨(by kernel_rfl), (by kernel_rfl)⟩ (puo (.pointer (some ⟨b23, 0, none⟩)) ⟨(by kernel_rfl), (by kernel_rfl)⟩ (seq_on (by kernel_rfl) (s_load1 hI 0 (iv (firstC pm 20).1.lo) Tryz.isAgg3 rfl rfl rfl ?_)))
             refine seq_on (by kernel_rfl) (s_lss rfl rfl ?_ ?_)
             ·intro h21
              refine puo (.bool true) ⟨(by kernel_rfl), (by kernel_rfl)⟩ (pu (.bool true) (by kernel_rfl) (pu (.bool true) (by kernel_rfl) (seq_nil (wp_ret ?_))))
              exact ⟨.bool true, Ret.r1 rfl rfl, ⟨rfl, hI.below⟩⟩
             ·intro h22
              exact absurd h22 (not_not_intro (hG.none.1 h20))
            ·intro h23
             refine puo (iv (n0 % 130)) ⟨(by kernel_rfl), (by kernel_rfl)⟩ (puo (.pointer (some ⟨b23, 0, none⟩)) ⟨(by kernel_rfl), (by kernel_rfl)⟩ (seq_on (by kernel_rfl) (s_load1 hI 0 (iv (firstC pm 20).1.lo) Tryz.isAgg3 rfl rfl rfl ?_)))
             refine seq_on (by kernel_rfl) (s_lss rfl rfl ?_ ?_)
             ·intro h24
              exact absurd h24 (fun hh => h23 (hG.none.2 hh))
             ·intro h25
              refine puo (.bool true) ⟨(by kernel_rfl), (by kernel_rfl)⟩ (pu (.bool true) (by kernel_rfl) (pu (.bool true) (by kernel_rfl) (seq_nil (wp_ret ?_))))
              exact ⟨.bool true, Ret.r1 rfl rfl, ⟨rfl, hI.below⟩⟩
           ·intro h26
            exact absurd h26 (not_not_intro (hG.sure.1 h15))
          ·intro h27
           exact absurd h27 (not_not_intro h15)
        ·intro h28
         refine puo (.bool false) ⟨(by kernel_rfl), (by kernel_rfl)⟩ (of_ (by kernel_rfl) (of_ (by kernel_rfl) (puo (.bool false) ⟨(by kernel_rfl), (by kernel_rfl)⟩ (pu (.bool false) (by kernel_rfl) (seq_nil (wp_condF rfl (wp_skip (wp_seq (rgn (by kernel_rfl) ?_)))))))))
         refine pu (iv ((clearC pm (n0 % 130) 20).1)) (by kernel_rfl) (seq_c (s_eql rfl rfl ?_ ?_))
         ·intro h29
          exact absurd h29 h28
         ·intro h30
          refine pu (iv (n0 % 130)) (by kernel_rfl) (pu (.pointer (some ⟨b23, 1, none⟩)) (by kernel_rfl) (seq_c (s_load1 hI 0 (iv (firstC pm 20).1.hi) Tryz.isAgg3 rfl rfl rfl ?_)))
          refine seq_c (s_geq rfl rfl ?_ ?_)
          ·intro h31
           exact absurd h31 (fun hh => h28 (hG.sure.2 hh))
          ·intro h32
           refine pu (.bool true) (by kernel_rfl) (pu (.bool true) (by kernel_rfl) (puo (iv ((clearC pm (n0 % 130) 20).1)) ⟨(by kernel_rfl), (by kernel_rfl)⟩ (seq_on (by kernel_rfl) (s_eql rfl rfl ?_ ?_))))
           ·intro h33
            refine puo (iv (n0 % 130)) ⟨(by kernel_rfl), (by kernel_rfl)⟩ (puo (.pointer (some ⟨b23, 0, none⟩)) ⟨(by kernel_rfl), (by kernel_rfl)⟩ (seq_on (by kernel_rfl) (s_load1 hI 0 (iv (firstC pm 20).1.lo) Tryz.isAgg3 rfl rfl rfl ?_)))
            refine seq_on (by kernel_rfl) (s_lss rfl rfl ?_ ?_)
            ·intro h34
             refine puo (.bool true) ⟨(by kernel_rfl), (by kernel_rfl)⟩ (pu (.bool true) (by kernel_rfl) (pu (.bool true) (by kernel_rfl) (seq_nil (wp_ret ?_))))
             exact ⟨.bool true, Ret.r1 rfl rfl, ⟨rfl, hI.below⟩⟩
            ·intro h35
             exact absurd h35 (not_not_intro (hG.none.1 h33))
           ·intro h36
            refine puo (iv (n0 % 130)) ⟨(by kernel_rfl), (by kernel_rfl)⟩ (puo (.pointer (some ⟨b23, 0, none⟩)) ⟨(by kernel_rfl), (by kernel_rfl)⟩ (seq_on (by kernel_rfl) (s_load1 hI 0 (iv (firstC pm 20).1.lo) Tryz.isAgg3 rfl rfl rfl ?_)))
            refine seq_on (by kernel_rfl) (s_lss rfl rfl ?_ ?_)
            ·intro h37
             exact absurd h37 (fun hh => h36 (hG.none.2 hh))
            ·intro h38
             refine puo (.bool true) ⟨(by kernel_rfl), (by kernel_rfl)⟩ (pu (.bool true) (by kernel_rfl) (pu (.bool true) (by kernel_rfl) (seq_nil (wp_ret ?_))))
             exact ⟨.bool true, Ret.r1 rfl rfl, ⟨rfl, hI.below⟩⟩

end Go.K
