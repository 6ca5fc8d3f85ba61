/- The law of contradictions: the walk. -/
import Derived.Test.YtinkdlmimiefaaaGreatProg
import Derived.Test.YtinkdlmimiefaaaGreatPG12
import Derived.Test.YtinkdlmimiefaaaGreatPM38
import Derived.Test.YtinkdlmimiefaaaGreatPXS
namespace Go.K
open Go.Proofs Go.RowKit
set_option linter.unusedVariables false
set_option linter.unusedSimpArgs false
set_option maxRecDepth 100000
attribute [local irreducible] Seq Step CallV AnyE opX

section steps
variable {P : Program} {ρ : Env} {w : World} {R : Value → World → Prop} {d : Option Nat} {ty : TypeId} {pos : String} {af : Array Edge} {gd : Option (Nat × Bool)}
theorem s_neqS5 {T Ty : TypeId} {x y : Operand} {a : Int} (ha : ev ρ x = .int .i64 a) (hb : ev ρ y = .int .i64 a) (k : R (.bool false) w) : Step P ⟨d, .binOp .neq T x y Ty, ty, pos, af, gd⟩ ρ w R :=
  s_neq ha hb (fun h => absurd rfl h) (fun _ => k)
theorem s_eqlS5 {T Ty : TypeId} {x y : Operand} {a : Int} (ha : ev ρ x = .int .i64 a) (hb : ev ρ y = .int .i64 a) (k : R (.bool true) w) : Step P ⟨d, .binOp .eql T x y Ty, ty, pos, af, gd⟩ ρ w R :=
  s_eql ha hb (fun _ => k) (fun h => absurd rfl h)
end steps
theorem Row.big_5 {k : Nat} {g : Option Nat} {n c : Nat} {cl xs : List Value} (h : Row k g n c cl xs) : n ≤ 9223372036854775807 := Nat.le_trans h.cap (by have := h.capmax; unfold maxLen at this; omega)

set_option maxHeartbeats 3200000 in
theorem SheafConflicts_c (w0 : World) (q0 q1 : Int) (hq0 : -9223372036854775808 ≤ q0 ∧ q0 ≤ 9223372036854775807) (rA1 : Option Addr) (rn1 rc1 : Nat) (rA2 : Option Addr) (rn2 rc2 : Nat) (rA3 : Option Addr) (rn3 rc3 : Nat) (ls ss ps : List A4) (hC1 : Cells w0 rA1 (flat eA4 ls)) (hn1 : rn1 = ls.length) (hx1_ : rn1 ≤ 9223372036854775807) (hC2 : Cells w0 rA2 (flat eA4 ss)) (hn2 : rn2 = ss.length) (hx2_ : rn2 ≤ 9223372036854775807) (hC3 : Cells w0 rA3 (flat eA4 ps)) (hn3 : rn3 = ps.length) (hx3_ : rn3 ≤ 9223372036854775807) (hok_ls : ∀ r ∈ ls, A4Ok r) (hok_ss : ∀ r ∈ ss, A4Ok r) (n0 n1 : Int) : Does Tryz.prog 9 [.agg #[.int .i64 q0, .int .i64 q1, .slice rA1 rn1 rc1, .slice rA2 rn2 rc2, .slice rA3 rn3 rc3], .agg #[.int .i64 n0, .int .i64 n1]] w0 fun v w => v = .bool true ∧ Below w0.heap.size w0 w := by
 obtain ⟨pm, hpm⟩ : ∃ z, z = madeB q0 q1 ls ss ps false := ⟨_, rfl⟩
 obtain ⟨tk, htk⟩ : ∃ z, z = ((mLoads 0 20 (q0 % 200) (ls.take 6)).map Prod.snd) := ⟨_, rfl⟩
 have hv : plotB pm = true := by rw [hpm]; exact madeB_valid q0 q1 ls ss ps _
 have hn19 : pm.loads.length < 20 := by rw [hpm]; exact madeB_few q0 q1 ls ss ps _
 have hun : ∀ x ∈ pm.loads, x.un = 0 := fun x hx => by rw [hpm] at hx; exact ((made_lok q0 ls).hours x hx).2.2.2.2.2.2.2.1
 have hdb : isDayB (n0 % 24) = true := by simp [isDayB]; omega
 have hday : dayI pm (n0 % 24) = 0 := by simp only [dayI, hv, hdb, if_true]
 refine calls_of (n := 105) Tryz.func9 rfl Tryz.ntmps9 rfl ?_
 have hI := Inv.start w0
 refine wp_seq (rgn (by kernel_rfl) (seq_c (s_boxI hI [iv q0, iv q1, .slice rA1 rn1 rc1, .slice rA2 rn2 rc2, .slice rA3 rn3 rc3] rfl ?_)))
 intro b1 w hI
 refine seq_c (s_boxI hI [iv n0, iv n1] rfl ?_)
 intro b2 w hI
 refine pu (.bool false) (by kernel_rfl) (seq_nil (wp_seq (rgn (by kernel_rfl) (seq_c (s_callv hI 13 [] (.bool true) (by kernel_rfl) (sane_c _) ?_)))))
 intro w hI
 refine pu (.bool true) (by kernel_rfl) (seq_nil (wp_seq (rgn (by kernel_rfl) (seq_c (s_loadK hI 1 5 [iv q0, iv q1, .slice rA1 rn1 rc1, .slice rA2 rn2 rc2, .slice rA3 rn3 rc3] Tryz.isAgg78 Tryz.sizeOf78 rfl rfl rfl rfl ?_)))))
 refine seq_c (s_callMade hI (q := pm) (t := q0 % 200) (l := tk) 57 [.agg #[iv q0, iv q1, .slice rA1 rn1 rc1, .slice rA2 rn2 rc2, .slice rA3 rn3 rc3], .bool false] (by kernel_rfl) (by rw [hpm, htk]; exact MadeB_c _ q0 q1 hq0 rA1 rn1 rc1 rA2 rn2 rc2 rA3 rn3 rc3 ls ss ps (hC1.inv0 hI) hn1 hx1_ (hC2.inv0 hI) hn2 hx2_ (hC3.inv0 hI) hn3 hx3_ hok_ls hok_ss false) ?_)
 intro g3 c4 cl5 g7 c8 cl9 g11 c12 cl13 g15 c16 cl17 w hI r6 r10 r14 r18
 refine pu (.tuple #[.agg #[iv pm.lo, iv pm.hi, slv g3 pm.loads.length c4, slv g7 pm.stands.length c8, slv g11 pm.spells.length c12, iv pm.geese], .agg #[iv (q0 % 200), slv g15 tk.length c16]]) (by kernel_rfl) (pu (.agg #[iv pm.lo, iv pm.hi, slv g3 pm.loads.length c4, slv g7 pm.stands.length c8, slv g11 pm.spells.length c12, iv pm.geese]) (by kernel_rfl) (pu (.agg #[iv (q0 % 200), slv g15 tk.length c16]) (by kernel_rfl) (seq_c (s_allocI hI [iv 0, iv 0, .slice none 0 0, .slice none 0 0, .slice none 0 0, iv 0] Tryz.zeroValue28 rfl ?_))))
 intro b19 w hI
 refine seq_c (s_allocI hI [iv 0, .slice none 0 0] Tryz.zeroValue57 rfl ?_)
 intro b20 w hI
 refine seq_c (s_store hI 1 6 [iv pm.lo, iv pm.hi, slv g3 pm.loads.length c4, slv g7 pm.stands.length c8, slv g11 pm.spells.length c12, iv pm.geese] Tryz.sizeOf28 rfl rfl rfl rfl rfl (Nat.le_of_ble_eq_true rfl) ?_)
 intro w hI
 refine seq_c (s_store hI 0 2 [iv (q0 % 200), slv g15 tk.length c16] Tryz.sizeOf57 rfl rfl rfl rfl rfl (Nat.le_of_ble_eq_true rfl) ?_)
 intro w hI
 refine seq_nil (wp_seq (rgn (by kernel_rfl) (pu (.pointer (some ⟨b2, 0, none⟩)) (by kernel_rfl) (seq_c (s_load1 hI 6 (iv n0) Tryz.isAgg3 rfl rfl rfl ?_)))))
 refine seq_c (s_callv hI 58 [iv n0, iv 24] (iv (n0 % 24)) (by kernel_rfl) (ModC n0 24  (by omega) _) ?_)
 intro w hI
 refine pu (iv (n0 % 24)) (by kernel_rfl) (seq_nil (wp_seq (rgn (by kernel_rfl) (seq_c (s_loadK hI 1 6 [iv pm.lo, iv pm.hi, slv g3 pm.loads.length c4, slv g7 pm.stands.length c8, slv g11 pm.spells.length c12, iv pm.geese] Tryz.isAgg28 Tryz.sizeOf28 rfl rfl rfl rfl ?_)))))
 refine pu (iv (n0 % 24)) (by kernel_rfl) ?_
 rcases Bool.eq_false_or_eq_true (stoodF (scnF pm (n0 % 24)) (crtF pm (n0 % 24))).2 with hso | hso
 ·
  have hcc : (clashC pm (n0 % 24)).2 = 15 := by simp [clashC, hday, hso]
  have hsc : soundC pm (n0 % 24) = (true, 0) := by simp [soundC, hday, hso]
  refine seq_c (s_callv hI 30 [.agg #[iv pm.lo, iv pm.hi, slv g3 pm.loads.length c4, slv g7 pm.stands.length c8, slv g11 pm.spells.length c12, iv pm.geese], iv (n0 % 24)] (.tuple #[.bool true, iv 0]) (by kernel_rfl) (Does.mono (Sound_c _ pm (g3.map fun b => ⟨b, 0, none⟩) pm.loads.length c4 (g7.map fun b => ⟨b, 0, none⟩) pm.stands.length c8 (g11.map fun b => ⟨b, 0, none⟩) pm.spells.length c12 ⟨(hI.rowCells 2 rfl r6), rfl, (hI.rowCells 3 rfl r10), rfl, (hI.rowCells 4 rfl r14), rfl, r6.big_5, r10.big_5, r14.big_5⟩ (n0 % 24) hn19) fun v w' h => ⟨h.1.trans (by rw [hsc]), h.2⟩) ?_)
  intro w hI
  refine pu (.tuple #[.bool true, iv 0]) (by kernel_rfl) (pu (.bool true) (by kernel_rfl) (pu (iv 0) (by kernel_rfl) (pu (.bool true) (by kernel_rfl) (pu (iv 0) (by kernel_rfl) (seq_nil (wp_seq (rgn (by kernel_rfl) (seq_c (s_loadK hI 1 6 [iv pm.lo, iv pm.hi, slv g3 pm.loads.length c4, slv g7 pm.stands.length c8, slv g11 pm.spells.length c12, iv pm.geese] Tryz.isAgg28 Tryz.sizeOf28 rfl rfl rfl rfl ?_)))))))))
  refine pu (iv (n0 % 24)) (by kernel_rfl) (seq_c (s_callNewF hI 32 [.agg #[iv pm.lo, iv pm.hi, slv g3 pm.loads.length c4, slv g7 pm.stands.length c8, slv g11 pm.spells.length c12, iv pm.geese], iv (n0 % 24)] (fun v1 => .tuple #[v1, iv 15]) (by kernel_rfl) (Does.mono (Clash_c _ pm (g3.map fun b => ⟨b, 0, none⟩) pm.loads.length c4 (g7.map fun b => ⟨b, 0, none⟩) pm.stands.length c8 (g11.map fun b => ⟨b, 0, none⟩) pm.spells.length c12 ⟨(hI.rowCells 2 rfl r6), rfl, (hI.rowCells 3 rfl r10), rfl, (hI.rowCells 4 rfl r14), rfl, r6.big_5, r10.big_5, r14.big_5⟩ (n0 % 24) hn19) (fun v w' ⟨v1, e1, e2⟩ => ⟨v1, by rw [e1, hcc], e2⟩)) ?_))
  intro g21 c22 cl23 w hI r24
  have r24 : Row 1 g21 ((clashC pm (n0 % 24)).1.length) c22 cl23 (flat eInt ((clashC pm (n0 % 24)).1)) := r24
  refine pu (.tuple #[slv g21 ((clashC pm (n0 % 24)).1.length) c22, iv 15]) (by kernel_rfl) (pu (slv g21 ((clashC pm (n0 % 24)).1.length) c22) (by kernel_rfl) (pu (iv 15) (by kernel_rfl) (pu (slv g21 ((clashC pm (n0 % 24)).1.length) c22) (by kernel_rfl) (pu (iv 15) (by kernel_rfl) (seq_nil (wp_seq (wp_seq (rgn (by kernel_rfl) (pu (.bool true) (by kernel_rfl) ?_)))))))))
  refine pu (.bool false) (by kernel_rfl) (pu (.bool false) (by kernel_rfl) (puo (iv 0) ⟨(by kernel_rfl), (by kernel_rfl)⟩ (seq_on (by kernel_rfl) (s_neqS5 rfl rfl ?_))))
  refine pu (.bool false) (by kernel_rfl) (pu (.bool false) (by kernel_rfl) (puo (.bool true) ⟨(by kernel_rfl), (by kernel_rfl)⟩ (puo (.bool true) ⟨(by kernel_rfl), (by kernel_rfl)⟩ (puo (iv 15) ⟨(by kernel_rfl), (by kernel_rfl)⟩ (seq_on (by kernel_rfl) (s_neqS5 rfl rfl ?_))))))
  refine puo (.bool false) ⟨(by kernel_rfl), (by kernel_rfl)⟩ (pu (.bool false) (by kernel_rfl) (pu (.bool false) (by kernel_rfl) (puo (.bool true) ⟨(by kernel_rfl), (by kernel_rfl)⟩ (puo (.bool false) ⟨(by kernel_rfl), (by kernel_rfl)⟩ (puo (.bool false) ⟨(by kernel_rfl), (by kernel_rfl)⟩ (of_ (by kernel_rfl) (of_ (by kernel_rfl) (of_ (by kernel_rfl) (seq_offN (by kernel_rfl) ?_)))))))))
  refine seq_offN (by kernel_rfl) ?_
  refine seq_offN (by kernel_rfl) ?_
  refine of_ (by kernel_rfl) (of_ (by kernel_rfl) (seq_offN (by kernel_rfl) ?_))
  refine seq_offN (by kernel_rfl) ?_
  refine seq_offN (by kernel_rfl) ?_
  refine seq_offN (by kernel_rfl) ?_
  refine seq_offN (by kernel_rfl) ?_
  refine of_ (by kernel_rfl) (puo (.bool false) ⟨(by kernel_rfl), (by kernel_rfl)⟩ (pu (.bool false) (by kernel_rfl) (seq_nil (wp_condF rfl (wp_skip (wp_seq (wp_seq (rgn (by kernel_rfl) (pu (.pointer (some ⟨b19, 2, none⟩)) (by kernel_rfl) ?_)))))))))
  refine seq_c (s_load1 hI 2 (slv g3 pm.loads.length c4) Tryz.isAgg24 rfl rfl rfl ?_)
  refine pu (iv ((pm.loads.length : Nat) : Int)) (by kernel_rfl) (seq_c (s_eql rfl rfl ?_ ?_))
  ·intro h1
   refine seq_nil (wp_condT rfl (wp_seq (rgn (by kernel_rfl) (pu (.bool true) (by kernel_rfl) (seq_nil (wp_ret ?_))))))
   exact ⟨.bool true, Ret.r1 rfl rfl, ⟨rfl, hI.below⟩⟩
  ·intro h2
   refine seq_nil (wp_condF rfl (wp_skip ?_))
   have hmz : (0 : Int) < (pm.loads.length : Int) := by omega
   have hm0 := Int.emod_nonneg n1 (show ((pm.loads.length : Nat) : Int) ≠ 0 by omega); have hm1 := Int.emod_lt_of_pos n1 hmz
   obtain ⟨x25, hx26⟩ := get_lt (l := pm.loads) (i := (n1 % (pm.loads.length : Int)).toNat) (by omega)
   obtain ⟨b27, rfl, he28⟩ := r6.at_ eLd_len (by decide) hx26
   refine wp_cut (fun ρ w => ∃ (b29 : Nat), Agree ρ [(6, .pointer (some ⟨b19, 0, none⟩)), (8, iv (n0 % 24)), (13, .pointer (some ⟨b29, 0, none⟩))] ∧ Inv none w0 w [(some b29, blk [iv x25.src, iv x25.hr, iv x25.lo, iv x25.hi, iv x25.kn, iv x25.un] 30), (g21, blk cl23 3), (some b20, blk [iv (q0 % 200), slv g15 tk.length c16] 57), (some b19, blk [iv pm.lo, iv pm.hi, slv (some b27) pm.loads.length c4, slv g7 pm.stands.length c8, slv g11 pm.spells.length c12, iv pm.geese] 28), (some b27, blk cl5 30), (g7, blk cl9 31), (g11, blk cl13 33), (g15, blk cl17 3), (some b2, blk [iv n0, iv n1] 65), (some b1, blk [iv q0, iv q1, .slice rA1 rn1 rc1, .slice rA2 rn2 rc2, .slice rA3 rn3 rc3] 78)]) ?_ ?_
   ·
    refine wp_drawn2 hI [0, 1, 2, 3, 4, 5, 6, 7, 8] (by decide) rfl (by kernel_rfl) (by kernel_rfl) ?_
    intro hsub
    refine alp 0 (.pointer (some ⟨b19, 2, none⟩)) hsub rfl (by kernel_rfl) (fun _ => (by kernel_rfl)) ?_
    refine al_light 1 (slv (some b27) pm.loads.length c4) hsub rfl (by kernel_rfl) (fun w hI => s_load1 hI 2 (slv (some b27) pm.loads.length c4) Tryz.isAgg24 rfl rfl rfl ⟨rfl, Below.refl _ _⟩) ?_
    refine alp 2 (.pointer (some ⟨b2, 1, none⟩)) hsub rfl (by kernel_rfl) (fun _ => (by kernel_rfl)) ?_
    refine al_light 3 (iv n1) hsub rfl (by kernel_rfl) (fun w hI => s_load1 hI 7 (iv n1) Tryz.isAgg3 rfl rfl rfl ⟨rfl, Below.refl _ _⟩) ?_
    refine alp 4 (.pointer (some ⟨b19, 2, none⟩)) hsub rfl (by kernel_rfl) (fun _ => (by kernel_rfl)) ?_
    refine al_light 5 (slv (some b27) pm.loads.length c4) hsub rfl (by kernel_rfl) (fun w hI => s_load1 hI 2 (slv (some b27) pm.loads.length c4) Tryz.isAgg24 rfl rfl rfl ⟨rfl, Below.refl _ _⟩) ?_
    refine al_light 6 (iv (pm.loads.length : Int)) hsub rfl (by kernel_rfl) (fun w hI => s_pure (iv ((pm.loads.length : Nat) : Int)) (by kernel_rfl) ⟨rfl, Below.refl _ _⟩) ?_
    refine al_light 7 (iv (n1 % (pm.loads.length : Int))) hsub rfl (by kernel_rfl) (fun w hI => s_call 58 [iv n1, iv (pm.loads.length : Int)] (by kernel_rfl) (ModC n1 (pm.loads.length : Int)  (by omega) _) (fun v' w' h => h)) ?_
    refine al_light 8 (.pointer (some ⟨b27, ((n1 % (pm.loads.length : Int)).toNat) * 6, none⟩)) hsub rfl (by kernel_rfl) (fun w hI => s_indexR ((n1 % (pm.loads.length : Int)).toNat) Tryz.underlying24 Tryz.sizeOf30 rfl rfl (by omega) (by omega) ⟨rfl, Below.refl _ _⟩) ?_
    refine al_light 9 (.agg #[iv x25.src, iv x25.hr, iv x25.lo, iv x25.hi, iv x25.kn, iv x25.un]) hsub rfl (by kernel_rfl) (fun w hI => s_loadRK hI 3 [iv x25.src, iv x25.hr, iv x25.lo, iv x25.hi, iv x25.kn, iv x25.un] Tryz.isAgg30 Tryz.sizeOf30 rfl rfl rfl he28 ⟨rfl, Below.refl _ _⟩) ?_
    refine any_heavy [10] (by kernel_rfl) rfl (each1 ?_)
    intro w hI
    refine ol_c rfl (s_allocI hI [iv 0, iv 0, iv 0, iv 0, iv 0, iv 0] Tryz.zeroValue30 rfl ?_)
    intro b29 w hI
    refine ⟨_, hI, subk (fun _ h => h.pickL [1, 2, 3, 4, 5, 6, 7, 8, 9] (by decide) rfl) ?_⟩
    intro hsub
    refine any_heavy [11] (by kernel_rfl) rfl (each1 ?_)
    intro w hI
    refine ol_c rfl (s_store hI 0 6 [iv x25.src, iv x25.hr, iv x25.lo, iv x25.hi, iv x25.kn, iv x25.un] Tryz.sizeOf30 rfl rfl rfl rfl rfl (Nat.le_of_ble_eq_true rfl) ?_)
    intro w hI
    refine ⟨_, hI, subk (fun _ h => h.pickL [1, 2, 3, 4, 5, 6, 7, 8, 9] (by decide) rfl) ?_⟩
    intro hsub
    refine any_end (by kernel_rfl) (fun w hI => ?_)
    exact ⟨rfl, b29, ⟨rfl, rfl, rfl, trivial⟩, hI.pickL [0, 1, 2, 3, 4, 5, 6, 7, 8, 9] (by decide) rfl⟩
   ·rintro ρ w ⟨b29, hag, hI⟩
    obtain ⟨ρ, rfl⟩ := hag.form; clear hag
    refine wp_seq (rgn (by kernel_rfl) (seq_c (s_loadK hI 3 6 [iv pm.lo, iv pm.hi, slv (some b27) pm.loads.length c4, slv g7 pm.stands.length c8, slv g11 pm.spells.length c12, iv pm.geese] Tryz.isAgg28 Tryz.sizeOf28 rfl rfl rfl rfl ?_)))
    refine pu (iv (n0 % 24)) (by kernel_rfl) (pu (.pointer (some ⟨b29, 0, none⟩)) (by kernel_rfl) (seq_c (s_load1 hI 0 (iv x25.src) Tryz.isAgg3 rfl rfl rfl ?_)))
    refine seq_c (s_new hI [iv x25.src] 3 (fun b => slv (some b) 1 1) (by kernel_rfl) ?_)
    intro b30 w hI
    obtain ⟨al, hal⟩ : ∃ z, z = clashB (scnF pm (n0 % 24)) (crtF pm (n0 % 24)) [x25.src] := ⟨_, rfl⟩
    have hai : al = (decide (x25.kn ≤ n0 % 24) && decide (pm.hi < x25.lo)) := by rw [hal]; exact alone_iff hv (mem_of_get hx26) (by simp [countsB, hun x25 (mem_of_get hx26)])
    rcases Bool.eq_false_or_eq_true al with hav | hav
    ·
     rw [hav] at hai hal
     refine seq_c (s_callv hI 34 [.agg #[iv pm.lo, iv pm.hi, slv (some b27) pm.loads.length c4, slv g7 pm.stands.length c8, slv g11 pm.spells.length c12, iv pm.geese], iv (n0 % 24), .slice (some ⟨b30, 0, none⟩) 1 1] (iv 0) (by kernel_rfl) (Does.mono (CheckClash_c _ pm ((some b27).map fun b => ⟨b, 0, none⟩) pm.loads.length c4 (g7.map fun b => ⟨b, 0, none⟩) pm.stands.length c8 (g11.map fun b => ⟨b, 0, none⟩) pm.spells.length c12 ⟨(hI.rowCells 5 rfl r6), rfl, (hI.rowCells 6 rfl r10), rfl, (hI.rowCells 7 rfl r14), rfl, r6.big_5, r10.big_5, r14.big_5⟩ (n0 % 24) hn19 hday (some ⟨b30, 0, none⟩) 1 1 [x25.src] (hI.cells 0 (off := 0) rfl (fun j u h => by rw [Nat.zero_add]; exact h)) rfl (by decide)) fun v w' h => ⟨h.1.trans (by rw [← hal]; rfl), h.2⟩) ?_)
     intro w hI
     refine seq_c (s_eqlS5 rfl rfl ?_)
     refine pu (.bool true) (by kernel_rfl) (seq_nil (wp_seq (rgn (by kernel_rfl) (pu (.bool true) (by kernel_rfl) (pu (.pointer (some ⟨b29, 4, none⟩)) (by kernel_rfl) (seq_c (s_load1 hI 1 (iv x25.kn) Tryz.isAgg3 rfl rfl rfl ?_)))))))
     refine pu (iv (n0 % 24)) (by kernel_rfl) (seq_c (s_leq rfl rfl ?_ ?_))
     ·intro h3
      refine pu (.bool true) (by kernel_rfl) (puo (.pointer (some ⟨b29, 2, none⟩)) ⟨(by kernel_rfl), (by kernel_rfl)⟩ (puo (.pointer (some ⟨b29, 2, none⟩)) ⟨(by kernel_rfl), (by kernel_rfl)⟩ (seq_on (by kernel_rfl) (s_load1 hI 1 (iv x25.lo) Tryz.isAgg3 rfl rfl rfl ?_))))
      refine puo (.pointer (some ⟨b19, 0, none⟩)) ⟨(by kernel_rfl), (by kernel_rfl)⟩ (puo (.pointer (some ⟨b19, 1, none⟩)) ⟨(by kernel_rfl), (by kernel_rfl)⟩ (seq_on (by kernel_rfl) (s_load1 hI 4 (iv pm.hi) Tryz.isAgg3 rfl rfl rfl ?_)))
      refine seq_on (by kernel_rfl) (s_gtr rfl rfl ?_ ?_)
      ·intro h4
       refine pu (.bool true) (by kernel_rfl) (pu (.bool true) (by kernel_rfl) (pu (.bool true) (by kernel_rfl) (seq_nil (wp_ret ?_))))
       exact ⟨.bool true, Ret.r1 rfl rfl, ⟨rfl, hI.below⟩⟩
      ·intro h5
       exact absurd h5 (by simp at hai; exact not_not_intro hai.2)
     ·intro h6
      exact absurd h6 (by simp at hai; exact not_not_intro hai.1)
    ·
     rw [hav] at hai hal
     refine seq_c (s_callv hI 34 [.agg #[iv pm.lo, iv pm.hi, slv (some b27) pm.loads.length c4, slv g7 pm.stands.length c8, slv g11 pm.spells.length c12, iv pm.geese], iv (n0 % 24), .slice (some ⟨b30, 0, none⟩) 1 1] (iv 15) (by kernel_rfl) (Does.mono (CheckClash_c _ pm ((some b27).map fun b => ⟨b, 0, none⟩) pm.loads.length c4 (g7.map fun b => ⟨b, 0, none⟩) pm.stands.length c8 (g11.map fun b => ⟨b, 0, none⟩) pm.spells.length c12 ⟨(hI.rowCells 5 rfl r6), rfl, (hI.rowCells 6 rfl r10), rfl, (hI.rowCells 7 rfl r14), rfl, r6.big_5, r10.big_5, r14.big_5⟩ (n0 % 24) hn19 hday (some ⟨b30, 0, none⟩) 1 1 [x25.src] (hI.cells 0 (off := 0) rfl (fun j u h => by rw [Nat.zero_add]; exact h)) rfl (by decide)) fun v w' h => ⟨h.1.trans (by rw [← hal]; rfl), h.2⟩) ?_)
     intro w hI
     refine seq_c (s_eql rfl rfl ?_ ?_)
     ·intro h7
      exact absurd h7 (by decide)
     ·intro h8
      refine pu (.bool false) (by kernel_rfl) (seq_nil (wp_seq (rgn (by kernel_rfl) (pu (.bool false) (by kernel_rfl) (pu (.pointer (some ⟨b29, 4, none⟩)) (by kernel_rfl) (seq_c (s_load1 hI 1 (iv x25.kn) Tryz.isAgg3 rfl rfl rfl ?_)))))))
      refine pu (iv (n0 % 24)) (by kernel_rfl) (seq_c (s_leq rfl rfl ?_ ?_))
      ·intro h9
       refine pu (.bool true) (by kernel_rfl) (puo (.pointer (some ⟨b29, 2, none⟩)) ⟨(by kernel_rfl), (by kernel_rfl)⟩ (puo (.pointer (some ⟨b29, 2, none⟩)) ⟨(by kernel_rfl), (by kernel_rfl)⟩ (seq_on (by kernel_rfl) (s_load1 hI 1 (iv x25.lo) Tryz.isAgg3 rfl rfl rfl ?_))))
       refine puo (.pointer (some ⟨b19, 0, none⟩)) ⟨(by kernel_rfl), (by kernel_rfl)⟩ (puo (.pointer (some ⟨b19, 1, none⟩)) ⟨(by kernel_rfl), (by kernel_rfl)⟩ (seq_on (by kernel_rfl) (s_load1 hI 4 (iv pm.hi) Tryz.isAgg3 rfl rfl rfl ?_)))
       refine seq_on (by kernel_rfl) (s_gtr rfl rfl ?_ ?_)
       ·intro h10
        exact absurd h10 (fun hh => by rw [decide_eq_true h9, decide_eq_true hh] at hai; cases hai)
       ·intro h11
        refine pu (.bool false) (by kernel_rfl) (pu (.bool true) (by kernel_rfl) (pu (.bool true) (by kernel_rfl) (seq_nil (wp_ret ?_))))
        exact ⟨.bool true, Ret.r1 rfl rfl, ⟨rfl, hI.below⟩⟩
      ·intro h12
       refine pu (.bool false) (by kernel_rfl) (of_ (by kernel_rfl) (of_ (by kernel_rfl) (of_ (by kernel_rfl) (of_ (by kernel_rfl) (of_ (by kernel_rfl) (of_ (by kernel_rfl) (of_ (by kernel_rfl) (pu (.bool false) (by kernel_rfl) (pu (.bool true) (by kernel_rfl) ?_)))))))))
       refine pu (.bool true) (by kernel_rfl) (seq_nil (wp_ret ?_))
       exact ⟨.bool true, Ret.r1 rfl rfl, ⟨rfl, hI.below⟩⟩
 ·
  obtain ⟨hcc, hcl, hck⟩ := clash_ok hv hdb hso
  have hsc : soundC pm (n0 % 24) = (false, 0) := by simp [soundC, hday, hso]
  refine seq_c (s_callv hI 30 [.agg #[iv pm.lo, iv pm.hi, slv g3 pm.loads.length c4, slv g7 pm.stands.length c8, slv g11 pm.spells.length c12, iv pm.geese], iv (n0 % 24)] (.tuple #[.bool false, iv 0]) (by kernel_rfl) (Does.mono (Sound_c _ pm (g3.map fun b => ⟨b, 0, none⟩) pm.loads.length c4 (g7.map fun b => ⟨b, 0, none⟩) pm.stands.length c8 (g11.map fun b => ⟨b, 0, none⟩) pm.spells.length c12 ⟨(hI.rowCells 2 rfl r6), rfl, (hI.rowCells 3 rfl r10), rfl, (hI.rowCells 4 rfl r14), rfl, r6.big_5, r10.big_5, r14.big_5⟩ (n0 % 24) hn19) fun v w' h => ⟨h.1.trans (by rw [hsc]), h.2⟩) ?_)
  intro w hI
  refine pu (.tuple #[.bool false, iv 0]) (by kernel_rfl) (pu (.bool false) (by kernel_rfl) (pu (iv 0) (by kernel_rfl) (pu (.bool false) (by kernel_rfl) (pu (iv 0) (by kernel_rfl) (seq_nil (wp_seq (rgn (by kernel_rfl) (seq_c (s_loadK hI 1 6 [iv pm.lo, iv pm.hi, slv g3 pm.loads.length c4, slv g7 pm.stands.length c8, slv g11 pm.spells.length c12, iv pm.geese] Tryz.isAgg28 Tryz.sizeOf28 rfl rfl rfl rfl ?_)))))))))
  refine pu (iv (n0 % 24)) (by kernel_rfl) (seq_c (s_callNewF hI 32 [.agg #[iv pm.lo, iv pm.hi, slv g3 pm.loads.length c4, slv g7 pm.stands.length c8, slv g11 pm.spells.length c12, iv pm.geese], iv (n0 % 24)] (fun v1 => .tuple #[v1, iv 0]) (by kernel_rfl) (Does.mono (Clash_c _ pm (g3.map fun b => ⟨b, 0, none⟩) pm.loads.length c4 (g7.map fun b => ⟨b, 0, none⟩) pm.stands.length c8 (g11.map fun b => ⟨b, 0, none⟩) pm.spells.length c12 ⟨(hI.rowCells 2 rfl r6), rfl, (hI.rowCells 3 rfl r10), rfl, (hI.rowCells 4 rfl r14), rfl, r6.big_5, r10.big_5, r14.big_5⟩ (n0 % 24) hn19) (fun v w' ⟨v1, e1, e2⟩ => ⟨v1, by rw [e1, hcc], e2⟩)) ?_))
  intro g31 c32 cl33 w hI r34
  have r34 : Row 1 g31 ((clashC pm (n0 % 24)).1.length) c32 cl33 (flat eInt ((clashC pm (n0 % 24)).1)) := r34
  refine pu (.tuple #[slv g31 ((clashC pm (n0 % 24)).1.length) c32, iv 0]) (by kernel_rfl) (pu (slv g31 ((clashC pm (n0 % 24)).1.length) c32) (by kernel_rfl) (pu (iv 0) (by kernel_rfl) (pu (slv g31 ((clashC pm (n0 % 24)).1.length) c32) (by kernel_rfl) (pu (iv 0) (by kernel_rfl) (seq_nil (wp_seq (wp_seq (rgn (by kernel_rfl) (pu (.bool true) (by kernel_rfl) ?_)))))))))
  refine pu (.bool false) (by kernel_rfl) (pu (.bool false) (by kernel_rfl) (puo (iv 0) ⟨(by kernel_rfl), (by kernel_rfl)⟩ (seq_on (by kernel_rfl) (s_neqS5 rfl rfl ?_))))
  refine pu (.bool false) (by kernel_rfl) (pu (.bool false) (by kernel_rfl) (puo (.bool false) ⟨(by kernel_rfl), (by kernel_rfl)⟩ (puo (.bool false) ⟨(by kernel_rfl), (by kernel_rfl)⟩ (of_ (by kernel_rfl) (of_ (by kernel_rfl) (puo (.bool false) ⟨(by kernel_rfl), (by kernel_rfl)⟩ (pu (.bool false) (by kernel_rfl) (pu (.bool false) (by kernel_rfl) (puo (.bool false) ⟨(by kernel_rfl), (by kernel_rfl)⟩ ?_)))))))))
  refine puo (.bool true) ⟨(by kernel_rfl), (by kernel_rfl)⟩ (puo (.bool true) ⟨(by kernel_rfl), (by kernel_rfl)⟩ (puo (iv 0) ⟨(by kernel_rfl), (by kernel_rfl)⟩ (seq_on (by kernel_rfl) (s_neqS5 rfl rfl ?_))))
  refine puo (.bool false) ⟨(by kernel_rfl), (by kernel_rfl)⟩ (puo (slv g31 ((clashC pm (n0 % 24)).1.length) c32) ⟨(by kernel_rfl), (by kernel_rfl)⟩ (puo (iv (((clashC pm (n0 % 24)).1.length : Nat) : Int)) ⟨(by kernel_rfl), (by kernel_rfl)⟩ (seq_on (by kernel_rfl) (s_eql rfl rfl ?_ ?_))))
  ·intro h13
   exact absurd h13 (by omega)
  ·intro h14
   refine puo (.bool false) ⟨(by kernel_rfl), (by kernel_rfl)⟩ (puo (.bool false) ⟨(by kernel_rfl), (by kernel_rfl)⟩ (seq_on (by kernel_rfl) (s_loadK hI 2 6 [iv pm.lo, iv pm.hi, slv g3 pm.loads.length c4, slv g7 pm.stands.length c8, slv g11 pm.spells.length c12, iv pm.geese] Tryz.isAgg28 Tryz.sizeOf28 rfl rfl rfl rfl ?_)))
   refine puo (iv (n0 % 24)) ⟨(by kernel_rfl), (by kernel_rfl)⟩ (puo (slv g31 ((clashC pm (n0 % 24)).1.length) c32) ⟨(by kernel_rfl), (by kernel_rfl)⟩ (seq_on (by kernel_rfl) (s_callv hI 34 [.agg #[iv pm.lo, iv pm.hi, slv g3 pm.loads.length c4, slv g7 pm.stands.length c8, slv g11 pm.spells.length c12, iv pm.geese], iv (n0 % 24), slv g31 ((clashC pm (n0 % 24)).1.length) c32] (iv 0) (by kernel_rfl) (Does.mono (CheckClash_c _ pm (g3.map fun b => ⟨b, 0, none⟩) pm.loads.length c4 (g7.map fun b => ⟨b, 0, none⟩) pm.stands.length c8 (g11.map fun b => ⟨b, 0, none⟩) pm.spells.length c12 ⟨(hI.rowCells 3 rfl r6), rfl, (hI.rowCells 4 rfl r10), rfl, (hI.rowCells 5 rfl r14), rfl, r6.big_5, r10.big_5, r14.big_5⟩ (n0 % 24) hn19 hday (g31.map fun b => ⟨b, 0, none⟩) ((clashC pm (n0 % 24)).1.length) c32 ((clashC pm (n0 % 24)).1) (hI.rowCells 0 rfl r34) (r34.n_eq eInt_len (by decide)) r34.big_5) fun v w' h => ⟨h.1.trans (by rw [hck]; rfl), h.2⟩) ?_)))
   intro w hI
   refine seq_on (by kernel_rfl) (s_neqS5 rfl rfl ?_)
   refine puo (.bool false) ⟨(by kernel_rfl), (by kernel_rfl)⟩ (puo (.bool false) ⟨(by kernel_rfl), (by kernel_rfl)⟩ (pu (.bool false) (by kernel_rfl) (seq_nil (wp_condF rfl (wp_skip (wp_seq (wp_seq (rgn (by kernel_rfl) (pu (.pointer (some ⟨b19, 2, none⟩)) (by kernel_rfl) ?_)))))))))
   refine seq_c (s_load1 hI 2 (slv g3 pm.loads.length c4) Tryz.isAgg24 rfl rfl rfl ?_)
   refine pu (iv ((pm.loads.length : Nat) : Int)) (by kernel_rfl) (seq_c (s_eql rfl rfl ?_ ?_))
   ·intro h15
    refine seq_nil (wp_condT rfl (wp_seq (rgn (by kernel_rfl) (pu (.bool true) (by kernel_rfl) (seq_nil (wp_ret ?_))))))
    exact ⟨.bool true, Ret.r1 rfl rfl, ⟨rfl, hI.below⟩⟩
   ·intro h16
    refine seq_nil (wp_condF rfl (wp_skip ?_))
    have hmz : (0 : Int) < (pm.loads.length : Int) := by omega
    have hm0 := Int.emod_nonneg n1 (show ((pm.loads.length : Nat) : Int) ≠ 0 by omega); have hm1 := Int.emod_lt_of_pos n1 hmz
    obtain ⟨x35, hx36⟩ := get_lt (l := pm.loads) (i := (n1 % (pm.loads.length : Int)).toNat) (by omega)
    obtain ⟨b37, rfl, he38⟩ := r6.at_ eLd_len (by decide) hx36
    refine wp_cut (fun ρ w => ∃ (b39 : Nat), Agree ρ [(6, .pointer (some ⟨b19, 0, none⟩)), (8, iv (n0 % 24)), (13, .pointer (some ⟨b39, 0, none⟩))] ∧ Inv none w0 w [(some b39, blk [iv x35.src, iv x35.hr, iv x35.lo, iv x35.hi, iv x35.kn, iv x35.un] 30), (g31, blk cl33 3), (some b20, blk [iv (q0 % 200), slv g15 tk.length c16] 57), (some b19, blk [iv pm.lo, iv pm.hi, slv (some b37) pm.loads.length c4, slv g7 pm.stands.length c8, slv g11 pm.spells.length c12, iv pm.geese] 28), (some b37, blk cl5 30), (g7, blk cl9 31), (g11, blk cl13 33), (g15, blk cl17 3), (some b2, blk [iv n0, iv n1] 65), (some b1, blk [iv q0, iv q1, .slice rA1 rn1 rc1, .slice rA2 rn2 rc2, .slice rA3 rn3 rc3] 78)]) ?_ ?_
    ·
     refine wp_drawn2 hI [0, 1, 2, 3, 4, 5, 6, 7, 8] (by decide) rfl (by kernel_rfl) (by kernel_rfl) ?_
     intro hsub
     refine alp 0 (.pointer (some ⟨b19, 2, none⟩)) hsub rfl (by kernel_rfl) (fun _ => (by kernel_rfl)) ?_
     refine al_light 1 (slv (some b37) pm.loads.length c4) hsub rfl (by kernel_rfl) (fun w hI => s_load1 hI 2 (slv (some b37) pm.loads.length c4) Tryz.isAgg24 rfl rfl rfl ⟨rfl, Below.refl _ _⟩) ?_
     refine alp 2 (.pointer (some ⟨b2, 1, none⟩)) hsub rfl (by kernel_rfl) (fun _ => (by kernel_rfl)) ?_
     refine al_light 3 (iv n1) hsub rfl (by kernel_rfl) (fun w hI => s_load1 hI 7 (iv n1) Tryz.isAgg3 rfl rfl rfl ⟨rfl, Below.refl _ _⟩) ?_
     refine alp 4 (.pointer (some ⟨b19, 2, none⟩)) hsub rfl (by kernel_rfl) (fun _ => (by kernel_rfl)) ?_
     refine al_light 5 (slv (some b37) pm.loads.length c4) hsub rfl (by kernel_rfl) (fun w hI => s_load1 hI 2 (slv (some b37) pm.loads.length c4) Tryz.isAgg24 rfl rfl rfl ⟨rfl, Below.refl _ _⟩) ?_
     refine al_light 6 (iv (pm.loads.length : Int)) hsub rfl (by kernel_rfl) (fun w hI => s_pure (iv ((pm.loads.length : Nat) : Int)) (by kernel_rfl) ⟨rfl, Below.refl _ _⟩) ?_
     refine al_light 7 (iv (n1 % (pm.loads.length : Int))) hsub rfl (by kernel_rfl) (fun w hI => s_call 58 [iv n1, iv (pm.loads.length : Int)] (by kernel_rfl) (ModC n1 (pm.loads.length : Int)  (by omega) _) (fun v' w' h => h)) ?_
     refine al_light 8 (.pointer (some ⟨b37, ((n1 % (pm.loads.length : Int)).toNat) * 6, none⟩)) hsub rfl (by kernel_rfl) (fun w hI => s_indexR ((n1 % (pm.loads.length : Int)).toNat) Tryz.underlying24 Tryz.sizeOf30 rfl rfl (by omega) (by omega) ⟨rfl, Below.refl _ _⟩) ?_
     refine al_light 9 (.agg #[iv x35.src, iv x35.hr, iv x35.lo, iv x35.hi, iv x35.kn, iv x35.un]) hsub rfl (by kernel_rfl) (fun w hI => s_loadRK hI 3 [iv x35.src, iv x35.hr, iv x35.lo, iv x35.hi, iv x35.kn, iv x35.un] Tryz.isAgg30 Tryz.sizeOf30 rfl rfl rfl he38 ⟨rfl, Below.refl _ _⟩) ?_
     refine any_heavy [10] (by kernel_rfl) rfl (each1 ?_)
     intro w hI
     refine ol_c rfl (s_allocI hI [iv 0, iv 0, iv 0, iv 0, iv 0, iv 0] Tryz.zeroValue30 rfl ?_)
     intro b39 w hI
     refine ⟨_, hI, subk (fun _ h => h.pickL [1, 2, 3, 4, 5, 6, 7, 8, 9] (by decide) rfl) ?_⟩
     intro hsub
     refine any_heavy [11] (by kernel_rfl) rfl (each1 ?_)
     intro w hI
     refine ol_c rfl (s_store hI 0 6 [iv x35.src, iv x35.hr, iv x35.lo, iv x35.hi, iv x35.kn, iv x35.un] Tryz.sizeOf30 rfl rfl rfl rfl rfl (Nat.le_of_ble_eq_true rfl) ?_)
     intro w hI
     refine ⟨_, hI, subk (fun _ h => h.pickL [1, 2, 3, 4, 5, 6, 7, 8, 9] (by decide) rfl) ?_⟩
     intro hsub
     refine any_end (by kernel_rfl) (fun w hI => ?_)
     exact ⟨rfl, b39, ⟨rfl, rfl, rfl, trivial⟩, hI.pickL [0, 1, 2, 3, 4, 5, 6, 7, 8, 9] (by decide) rfl⟩
    ·rintro ρ w ⟨b39, hag, hI⟩
     obtain ⟨ρ, rfl⟩ := hag.form; clear hag
     refine wp_seq (rgn (by kernel_rfl) (seq_c (s_loadK hI 3 6 [iv pm.lo, iv pm.hi, slv (some b37) pm.loads.length c4, slv g7 pm.stands.length c8, slv g11 pm.spells.length c12, iv pm.geese] Tryz.isAgg28 Tryz.sizeOf28 rfl rfl rfl rfl ?_)))
     refine pu (iv (n0 % 24)) (by kernel_rfl) (pu (.pointer (some ⟨b39, 0, none⟩)) (by kernel_rfl) (seq_c (s_load1 hI 0 (iv x35.src) Tryz.isAgg3 rfl rfl rfl ?_)))
     refine seq_c (s_new hI [iv x35.src] 3 (fun b => slv (some b) 1 1) (by kernel_rfl) ?_)
     intro b40 w hI
     obtain ⟨al, hal⟩ : ∃ z, z = clashB (scnF pm (n0 % 24)) (crtF pm (n0 % 24)) [x35.src] := ⟨_, rfl⟩
     have hai : al = (decide (x35.kn ≤ n0 % 24) && decide (pm.hi < x35.lo)) := by rw [hal]; exact alone_iff hv (mem_of_get hx36) (by simp [countsB, hun x35 (mem_of_get hx36)])
     rcases Bool.eq_false_or_eq_true al with hav | hav
     ·
      rw [hav] at hai hal
      refine seq_c (s_callv hI 34 [.agg #[iv pm.lo, iv pm.hi, slv (some b37) pm.loads.length c4, slv g7 pm.stands.length c8, slv g11 pm.spells.length c12, iv pm.geese], iv (n0 % 24), .slice (some ⟨b40, 0, none⟩) 1 1] (iv 0) (by kernel_rfl) (Does.mono (CheckClash_c _ pm ((some b37).map fun b => ⟨b, 0, none⟩) pm.loads.length c4 (g7.map fun b => ⟨b, 0, none⟩) pm.stands.length c8 (g11.map fun b => ⟨b, 0, none⟩) pm.spells.length c12 ⟨(hI.rowCells 5 rfl r6), rfl, (hI.rowCells 6 rfl r10), rfl, (hI.rowCells 7 rfl r14), rfl, r6.big_5, r10.big_5, r14.big_5⟩ (n0 % 24) hn19 hday (some ⟨b40, 0, none⟩) 1 1 [x35.src] (hI.cells 0 (off := 0) rfl (fun j u h => by rw [Nat.zero_add]; exact h)) rfl (by decide)) fun v w' h => ⟨h.1.trans (by rw [← hal]; rfl), h.2⟩) ?_)
      intro w hI
      refine seq_c (s_eqlS5 rfl rfl ?_)
      refine pu (.bool true) (by kernel_rfl) (seq_nil (wp_seq (rgn (by kernel_rfl) (pu (.bool true) (by kernel_rfl) (pu (.pointer (some ⟨b39, 4, none⟩)) (by kernel_rfl) (seq_c (s_load1 hI 1 (iv x35.kn) Tryz.isAgg3 rfl rfl rfl ?_)))))))
      refine pu (iv (n0 % 24)) (by kernel_rfl) (seq_c (s_leq rfl rfl ?_ ?_))
      ·intro h17
       refine pu (.bool true) (by kernel_rfl) (puo (.pointer (some ⟨b39, 2, none⟩)) ⟨(by kernel_rfl), (by kernel_rfl)⟩ (puo (.pointer (some ⟨b39, 2, none⟩)) ⟨(by kernel_rfl), (by kernel_rfl)⟩ (seq_on (by kernel_rfl) (s_load1 hI 1 (iv x35.lo) Tryz.isAgg3 rfl rfl rfl ?_))))
       refine puo (.pointer (some ⟨b19, 0, none⟩)) ⟨(by kernel_rfl), (by kernel_rfl)⟩ (puo (.pointer (some ⟨b19, 1, none⟩)) ⟨(by kernel_rfl), (by kernel_rfl)⟩ (seq_on (by kernel_rfl) (s_load1 hI 4 (iv pm.hi) Tryz.isAgg3 rfl rfl rfl ?_)))
       refine seq_on (by kernel_rfl) (s_gtr rfl rfl ?_ ?_)
       ·intro h18
        refine pu (.bool true) (by kernel_rfl) (pu (.bool true) (by kernel_rfl) (pu (.bool true) (by kernel_rfl) (seq_nil (wp_ret ?_))))
        exact ⟨.bool true, Ret.r1 rfl rfl, ⟨rfl, hI.below⟩⟩
       ·intro h19
        exact absurd h19 (by simp at hai; exact not_not_intro hai.2)
      ·intro h20
       exact absurd h20 (by simp at hai; exact not_not_intro hai.1)
     ·
      rw [hav] at hai hal
      refine seq_c (s_callv hI 34 [.agg #[iv pm.lo, iv pm.hi, slv (some b37) pm.loads.length c4, slv g7 pm.stands.length c8, slv g11 pm.spells.length c12, iv pm.geese], iv (n0 % 24), .slice (some ⟨b40, 0, none⟩) 1 1] (iv 15) (by kernel_rfl) (Does.mono (CheckClash_c _ pm ((some b37).map fun b => ⟨b, 0, none⟩) pm.loads.length c4 (g7.map fun b => ⟨b, 0, none⟩) pm.stands.length c8 (g11.map fun b => ⟨b, 0, none⟩) pm.spells.length c12 ⟨(hI.rowCells 5 rfl r6), rfl, (hI.rowCells 6 rfl r10), rfl, (hI.rowCells 7 rfl r14), rfl, r6.big_5, r10.big_5, r14.big_5⟩ (n0 % 24) hn19 hday (some ⟨b40, 0, none⟩) 1 1 [x35.src] (hI.cells 0 (off := 0) rfl (fun j u h => by rw [Nat.zero_add]; exact h)) rfl (by decide)) fun v w' h => ⟨h.1.trans (by rw [← hal]; rfl), h.2⟩) ?_)
      intro w hI
      refine seq_c (s_eql rfl rfl ?_ ?_)
      ·intro h21
       exact absurd h21 (by decide)
      ·intro h22
       refine pu (.bool false) (by kernel_rfl) (seq_nil (wp_seq (rgn (by kernel_rfl) (pu (.bool false) (by kernel_rfl) (pu (.pointer (some ⟨b39, 4, none⟩)) (by kernel_rfl) (seq_c (s_load1 hI 1 (iv x35.kn) Tryz.isAgg3 rfl rfl rfl ?_)))))))
       refine pu (iv (n0 % 24)) (by kernel_rfl) (seq_c (s_leq rfl rfl ?_ ?_))
       ·intro h23
        refine pu (.bool true) (by kernel_rfl) (puo (.pointer (some ⟨b39, 2, none⟩)) ⟨(by kernel_rfl), (by kernel_rfl)⟩ (puo (.pointer (some ⟨b39, 2, none⟩)) ⟨(by kernel_rfl), (by kernel_rfl)⟩ (seq_on (by kernel_rfl) (s_load1 hI 1 (iv x35.lo) Tryz.isAgg3 rfl rfl rfl ?_))))
        refine puo (.pointer (some ⟨b19, 0, none⟩)) ⟨(by kernel_rfl), (by kernel_rfl)⟩ (puo (.pointer (some ⟨b19, 1, none⟩)) ⟨(by kernel_rfl), (by kernel_rfl)⟩ (seq_on (by kernel_rfl) (s_load1 hI 4 (iv pm.hi) Tryz.isAgg3 rfl rfl rfl ?_)))
        refine seq_on (by kernel_rfl) (s_gtr rfl rfl ?_ ?_)
        ·intro h24
         exact absurd h24 (fun hh => by rw [decide_eq_true h23, decide_eq_true hh] at hai; cases hai)
        ·intro h25
         refine pu (.bool false) (by kernel_rfl) (pu (.bool true) (by kernel_rfl) (pu (.bool true) (by kernel_rfl) (seq_nil (wp_ret ?_))))
         exact ⟨.bool true, Ret.r1 rfl rfl, ⟨rfl, hI.below⟩⟩
       ·intro h26
        refine pu (.bool false) (by kernel_rfl) (of_ (by kernel_rfl) (of_ (by kernel_rfl) (of_ (by kernel_rfl) (of_ (by kernel_rfl) (of_ (by kernel_rfl) (of_ (by kernel_rfl) (of_ (by kernel_rfl) (pu (.bool false) (by kernel_rfl) (pu (.bool true) (by kernel_rfl) ?_)))))))))
        refine pu (.bool true) (by kernel_rfl) (seq_nil (wp_ret ?_))
        exact ⟨.bool true, Ret.r1 rfl rfl, ⟨rfl, hI.below⟩⟩

end Go.K
