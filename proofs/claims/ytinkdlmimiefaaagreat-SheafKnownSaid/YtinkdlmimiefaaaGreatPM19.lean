/- Dates, and the hours that a source moves. -/
import Derived.Test.YtinkdlmimiefaaaGreatProg
import Derived.Test.YtinkdlmimiefaaaGreatPM18
namespace Go.K
open Go.Proofs Go.RowKit
set_option linter.unusedVariables false
set_option linter.unusedSimpArgs false
set_option maxRecDepth 100000
attribute [local irreducible] Seq Step CallV AnyE opX

section steps
variable {P : Program} {ρ : Env} {w : World} {R : Value → World → Prop} {d : Option Nat} {ty : TypeId} {pos : String} {af : Array Edge} {gd : Option (Nat × Bool)}
theorem s_neqA {T Ty : TypeId} {x y : Operand} {xs ys : Array Value} {b : Bool} (ha : ev ρ x = .agg xs) (hb : ev ρ y = .agg ys)
    (hm : P.eqGuardType P.depth T = false) (he : ∀ w, (Op.equalIn 10000 T (.agg xs) (.agg ys)).run P w = .ok b w) (k1 : ¬ b = true → R (.bool true) w) (k2 : b = true → R (.bool false) w) : Step P ⟨d, .binOp .neq T x y Ty, ty, pos, af, gd⟩ ρ w R := by
  refine s_pure (.bool (!b)) ?_ ?_
  · have : execOp (ev ρ) ⟨d, .binOp .neq T x y Ty, ty, pos, af, gd⟩ = (do pure (.value (← (do eqGuard .neq T x y (ev ρ x) (ev ρ y); binOp .neq T (ev ρ x) (ev ρ y))))) := rfl
    rw [this, ha, hb]
    simp only [Sem.run_bind, run_eqGuard_agg _ _ _ _ _ _ _ hm, run_neq_struct, he, Result.andThen_ok, Sem.run_pure]
  · cases b with
    | true => exact k2 rfl
    | false => exact k1 (by simp)
end steps
theorem Row.big {k : Nat} {g : Option Nat} {n c : Nat} {cl xs : List Value} (h : Row k g n c cl xs) : n ≤ 9223372036854775807 := Nat.le_trans h.cap (by have := h.capmax; unfold maxLen at this; omega)
def daysL (l : List Nt) : List Int := l.flatMap fun y => if y.u = 0 then [y.k] else [y.k, y.u]
def datesC (p : Pl) : List Int × Int := if plotB p then (compactI (sortI (daysL (notesOf p))), 0) else ([], 13)
theorem daysL_step {l : List Nt} {k : Nat} {x : Nt} (hx : l[k]? = some x) : daysL (l.take (k + 1)) = daysL (l.take k) ++ (if x.u = 0 then [x.k] else [x.k, x.u]) := by
  rw [take_get hx, daysL, List.flatMap_append]; simp [daysL]
theorem daysL_len : ∀ l : List Nt, (daysL l).length ≤ 2 * l.length
  | [] => by simp [daysL]
  | x :: l => by
    have ih := daysL_len l
    have e : daysL (x :: l) = (if x.u = 0 then [x.k] else [x.k, x.u]) ++ daysL l := by simp [daysL]
    rw [e, List.length_append, List.length_cons]
    split
    · simp only [List.length_singleton]; omega
    · simp only [List.length_cons, List.length_nil]; omega
theorem without_len (p : Pl) (s : Int) : (withoutF p s).1.loads.length ≤ p.loads.length := by
  unfold withoutF
  split
  · split
    · exact List.length_filter_le _ _
    · exact Nat.zero_le _
  · exact Nat.zero_le _
theorem refOk_keep {p : Pl} (h : RefOk p) (k : Nt → Bool) : RefOk (keepP k p) := by
  refine ⟨h.sown, h.g0, h.g1, Nat.le_trans (List.length_filter_le _ _) h.l1, Nat.le_trans (List.length_filter_le _ _) h.l2, Nat.le_trans (List.length_filter_le _ _) h.l3,
    fun x hx => h.o1 x (List.mem_filter.1 hx).1, adj_iff.2 ((adj_iff.1 h.a1).sublist List.filter_sublist), fun x hx => h.o2 x (List.mem_filter.1 hx).1, adj_iff.2 ((adj_iff.1 h.a2).sublist List.filter_sublist),
    fun x hx => h.o3 x (List.mem_filter.1 hx).1, adj_iff.2 ((adj_iff.1 h.a3).sublist List.filter_sublist), ?_⟩
  refine h.nd.sublist ?_
  unfold srcsOf
  exact List.Sublist.append (List.Sublist.append (List.filter_sublist.map _) (List.filter_sublist.map _)) (List.filter_sublist.map _)
theorem without_ok {p : Pl} {s : Int} (hp : plotB p = true) (h : (withoutF p s).2 = 0) : plotB (withoutF p s).1 = true := by
  unfold withoutF at h ⊢
  rw [if_pos hp] at h ⊢
  split
  · exact (plotB_iff _).2 (refOk_keep ((plotB_iff p).1 hp) (fun y => decide (y.s ≠ s)))
  · rename_i h1; rw [if_neg h1] at h; cases h
def movedB (p q : Pl) (dy : Int) (x : Ld) : Bool := !((decide ((stoodAtF (scnF p dy) (crtF p dy) x.hr).1.lo = (stoodAtF (scnF q dy) (crtF q dy) x.hr).1.lo) && decide ((stoodAtF (scnF p dy) (crtF p dy) x.hr).1.hi = (stoodAtF (scnF q dy) (crtF q dy) x.hr).1.hi)) && ((stoodAtF (scnF p dy) (crtF p dy) x.hr).2 == (stoodAtF (scnF q dy) (crtF q dy) x.hr).2))
def movedC (p : Pl) (s dy : Int) : List Int × Int :=
  if dayI p dy = 0 then if (withoutF p s).2 = 0 then (compactI (sortI ((p.loads.filter (movedB p (withoutF p s).1 dy)).map Ld.hr)), 0) else ([], (withoutF p s).2) else ([], dayI p dy)
theorem moved_step {p q : Pl} {dy : Int} {l : List Ld} {k : Nat} {x : Ld} (hx : l[k]? = some x) : ((l.take (k + 1)).filter (movedB p q dy)).map Ld.hr = ((l.take k).filter (movedB p q dy)).map Ld.hr ++ (if movedB p q dy x then [x.hr] else []) := by
  rw [take_get hx, List.filter_append, List.map_append]
  cases h : movedB p q dy x <;> simp [h]

set_option maxHeartbeats 1600000 in
theorem Dates_c (w0 : World) (pl : Pl) (pA1 : Option Addr) (pn1 pc1 : Nat) (pA2 : Option Addr) (pn2 pc2 : Nat) (pA3 : Option Addr) (pn3 pc3 : Nat) (hP : PlotIn w0 pl pA1 pn1 pA2 pn2 pA3 pn3) : Does Tryz.prog 18 [.agg #[.int .i64 pl.lo, .int .i64 pl.hi, .slice pA1 pn1 pc1, .slice pA2 pn2 pc2, .slice pA3 pn3 pc3, .int .i64 pl.geese]] w0 fun v w => ∃ v1, v = .tuple #[v1, .int .i64 (datesC pl).2] ∧ Gives 1 3 none (datesC pl).1.length (flat eInt (datesC pl).1) w0 v1 w := by
 have hm1 := hP.m1; have hm2 := hP.m2; have hm3 := hP.m3
 refine calls_of (n := 38) Tryz.func18 rfl Tryz.ntmps18 rfl ?_
 have hI := Inv.start w0
 refine wp_seq (rgn (by kernel_rfl) (seq_c (s_boxI hI [iv pl.lo, iv pl.hi, .slice pA1 pn1 pc1, .slice pA2 pn2 pc2, .slice pA3 pn3 pc3, iv pl.geese] rfl ?_)))
 intro b1 w hI
 refine pu (.slice none 0 0) (by kernel_rfl) (pu (iv 0) (by kernel_rfl) (seq_nil (wp_seq (wp_seq (rgn (by kernel_rfl) (seq_c (s_loadK hI 0 6 [iv pl.lo, iv pl.hi, .slice pA1 pn1 pc1, .slice pA2 pn2 pc2, .slice pA3 pn3 pc3, iv pl.geese] Tryz.isAgg28 Tryz.sizeOf28 rfl rfl rfl rfl ?_)))))))
 refine seq_c (s_callv hI 22 [.agg #[iv pl.lo, iv pl.hi, .slice pA1 pn1 pc1, .slice pA2 pn2 pc2, .slice pA3 pn3 pc3, iv pl.geese]] (iv (codeI (plotB pl) 13)) (by kernel_rfl) (Check_c _ pl pA1 pn1 pc1 pA2 pn2 pc2 pA3 pn3 pc3 (hP.inv0 hI)) ?_)
 intro w hI
 refine pu (iv (codeI (plotB pl) 13)) (by kernel_rfl) (seq_nil (wp_seq (rgn (by kernel_rfl) (pu (iv (codeI (plotB pl) 13)) (by kernel_rfl) (seq_c (s_neq rfl rfl ?_ ?_))))))
 ·intro h1
  refine seq_nil (wp_condT rfl (wp_seq (rgn (by kernel_rfl) (pu (iv (codeI (plotB pl) 13)) (by kernel_rfl) (pu (.slice none 0 0) (by kernel_rfl) (pu (iv (codeI (plotB pl) 13)) (by kernel_rfl) (seq_nil (wp_ret ?_))))))))
  have hI := hI.nilRow 3
  have e : datesC pl = ([], codeI (plotB pl) 13) := by simp [datesC, codeI, codeI_no h1]
  exact ⟨.tuple #[.slice none 0 0, iv (codeI (plotB pl) 13)], Ret.r2 rfl rfl rfl, (by rw [e]; exact ⟨.slice none 0 0, rfl, none, 0, [], rfl, hI.pickL [0] (by decide) rfl, Row.nil_ 1⟩)⟩
 ·intro h2
  refine seq_nil (wp_condF rfl (wp_skip (wp_seq (rgn (by kernel_rfl) (pu (.slice none 0 0) (by kernel_rfl) (seq_nil (wp_seq (wp_seq (rgn (by kernel_rfl) ?_)))))))))
  refine seq_c (s_loadK hI 0 6 [iv pl.lo, iv pl.hi, .slice pA1 pn1 pc1, .slice pA2 pn2 pc2, .slice pA3 pn3 pc3, iv pl.geese] Tryz.isAgg28 Tryz.sizeOf28 rfl rfl rfl rfl ?_)
  have hsm := plotB_small (codeI_ok h2 (by decide)); have hs1 := hsm.s1; have hs2 := hsm.s2; have hs3 := hsm.s3
  refine seq_c (s_callNew hI 68 [.agg #[iv pl.lo, iv pl.hi, .slice pA1 pn1 pc1, .slice pA2 pn2 pc2, .slice pA3 pn3 pc3, iv pl.geese]] (by kernel_rfl) (notes_c _ pl pA1 pn1 pc1 pA2 pn2 pc2 pA3 pn3 pc3 (hP.inv0 hI) hsm) ?_)
  intro g2 c3 cl4 w hI r5
  have r5 : Row 3 g2 (pl.loads.length + pl.stands.length + pl.spells.length) c3 cl4 (flat eNt (notesOf pl)) := r5
  refine pu (iv ((pl.loads.length + pl.stands.length + pl.spells.length : Nat) : Int)) (by kernel_rfl) (pu (iv 0) (by kernel_rfl) (seq_nil (wp_block ?_)))
  have hnl0 := daysL_len (notesOf pl); have hntl : (notesOf pl).length = pl.loads.length + pl.stands.length + pl.spells.length := by simp [notesOf]; omega
  have hI := hI.nilRow 3
  refine wp_loop (fun m ρ w => ∃ (k : Nat) (nn : Nat) (gg : Option Nat) (cc : Nat) (ccl : List Value), Agree ρ [(5, slv gg nn cc), (14, slv g2 (pl.loads.length + pl.stands.length + pl.spells.length) c3), (15, iv (pl.loads.length + pl.stands.length + pl.spells.length : Int)), (16, iv (k : Int))] ∧ Inv none w0 w [(gg, blk ccl 3), (g2, blk cl4 95), (some b1, blk [iv pl.lo, iv pl.hi, .slice pA1 pn1 pc1, .slice pA2 pn2 pc2, .slice pA3 pn3 pc3, iv pl.geese] 28)] ∧ (k ≤ pl.loads.length + pl.stands.length + pl.spells.length) ∧ (nn ≤ 2 * k) ∧ (Row 1 gg (nn) cc ccl (flat eInt (daysL ((notesOf pl).take k)))) ∧ m = pl.loads.length + pl.stands.length + pl.spells.length - k) (m := pl.loads.length + pl.stands.length + pl.spells.length - 0) ⟨0, 0, none, 0, [], ⟨rfl, rfl, rfl, rfl, trivial⟩, hI.pickL [0, 1, 2] (by decide) rfl, (by omega), (by omega), (Row.nil_ 1), rfl⟩ ?_
  rintro m ρ w ⟨k, nn, gg, cc, ccl, hag, hI, hk, hnn, hrr, hm⟩
  obtain ⟨ρ, rfl⟩ := hag.form; clear hag
  refine wp_seq (rgn (by kernel_rfl) (seq_c (s_lss rfl rfl ?_ ?_)))
  ·intro h3
   refine seq_nil (wp_seq (wp_condT rfl (wp_skip (wp_seq (wp_block ?_)))))
   refine wp_seq (rgn (by kernel_rfl) ?_)
   obtain ⟨x6, hx7⟩ := get_lt (l := notesOf pl) (i := k) (by omega)
   obtain ⟨b8, rfl, he9⟩ := r5.at_ eNt_len (by decide) hx7
   refine seq_c (s_indexR k Tryz.underlying98 Tryz.sizeOf95 rfl rfl rfl (by omega) ?_)
   refine seq_c (s_loadRK hI 1 [iv x6.s, iv x6.k, iv x6.u] Tryz.isAgg95 Tryz.sizeOf95 rfl rfl rfl he9 ?_)
   refine seq_c (s_allocI hI [iv 0, iv 0, iv 0] Tryz.zeroValue95 rfl ?_)
   intro b10 w hI
   refine seq_c (s_store hI 0 3 [iv x6.s, iv x6.k, iv x6.u] Tryz.sizeOf95 rfl rfl rfl rfl rfl (Nat.le_of_ble_eq_true rfl) ?_)
   intro w hI
   refine seq_nil (wp_seq (rgn (by kernel_rfl) (pu (slv gg nn cc) (by kernel_rfl) (pu (.pointer (some ⟨b10, 1, none⟩)) (by kernel_rfl) (seq_c (s_load1 hI 0 (iv x6.k) Tryz.isAgg3 rfl rfl rfl ?_))))))
   refine seq_c (s_new hI [iv x6.k] 3 (fun b => slv (some b) 1 1) (by kernel_rfl) ?_)
   intro b11 w hI
   refine seq_c (s_app hI Tryz.underlying41 (z := iv 0) (k := 1) (bytes := 8) (by kernel_rfl) rfl rfl 2 rfl rfl hrr [iv x6.k] rfl rfl (hI.cells 0 (off := 0) rfl (fun j u h => by rw [Nat.zero_add]; exact h)) (by simp [Value.oneCell']) (by omega) (by omega) ?_)
   intro g12 c13 cl14 w hI r15
   have r15 : Row 1 g12 (nn + 1) c13 cl14 (flat eInt ((daysL ((notesOf pl).take k)) ++ [x6.k])) := r15.snoc _ rfl
   refine pu (slv g12 (nn + 1) c13) (by kernel_rfl) (seq_nil (wp_seq (rgn (by kernel_rfl) (pu (.pointer (some ⟨b10, 2, none⟩)) (by kernel_rfl) (seq_c (s_load1 hI 1 (iv x6.u) Tryz.isAgg3 rfl rfl rfl ?_))))))
   refine seq_c (s_neq rfl rfl ?_ ?_)
   ·intro h4
    refine seq_nil (wp_condT rfl (rgn (by kernel_rfl) (pu (slv g12 (nn + 1) c13) (by kernel_rfl) (pu (.pointer (some ⟨b10, 2, none⟩)) (by kernel_rfl) (seq_c (s_load1 hI 1 (iv x6.u) Tryz.isAgg3 rfl rfl rfl ?_))))))
    refine seq_c (s_new hI [iv x6.u] 3 (fun b => slv (some b) 1 1) (by kernel_rfl) ?_)
    intro b16 w hI
    refine seq_c (s_app hI Tryz.underlying41 (z := iv 0) (k := 1) (bytes := 8) (by kernel_rfl) rfl rfl 3 rfl rfl r15 [iv x6.u] rfl rfl (hI.cells 0 (off := 0) rfl (fun j u h => by rw [Nat.zero_add]; exact h)) (by simp [Value.oneCell']) (by omega) (by omega) ?_)
    intro g17 c18 cl19 w hI r20
    have r20 : Row 1 g17 (nn + 1 + 1) c18 cl19 (flat eInt (((daysL ((notesOf pl).take k)) ++ [x6.k]) ++ [x6.u])) := r20.snoc _ rfl
    refine pu (slv g17 (nn + 1 + 1) c18) (by kernel_rfl) (seq_nil (rgn (by kernel_rfl) (seq_c (s_add rfl rfl (by omega) ?_))))
    refine pu (iv ((k : Int) + 1)) (by kernel_rfl) (seq_nil ?_)
    exact ⟨rfl, _, (by omega), ⟨k + 1, nn + 1 + 1, g17, c18, cl19, ⟨rfl, rfl, rfl, rfl, trivial⟩, hI.pickL [3, 4, 5] (by decide) rfl, (by omega), (by omega), (r20.to (by rw [daysL_step hx7]; simp [*]) rfl), rfl⟩⟩
   ·intro h5
    refine seq_nil (wp_condF rfl (wp_skip (rgn (by kernel_rfl) (seq_c (s_add rfl rfl (by omega) ?_)))))
    refine pu (iv ((k : Int) + 1)) (by kernel_rfl) (seq_nil ?_)
    exact ⟨rfl, _, (by omega), ⟨k + 1, nn + 1, g12, c13, cl14, ⟨rfl, rfl, rfl, rfl, trivial⟩, hI.pickL [2, 3, 4] (by decide) rfl, (by omega), (by omega), (r15.to (by rw [daysL_step hx7]; simp [*]) rfl), rfl⟩⟩
  ·intro h6
   refine seq_nil (wp_seq (wp_condF rfl (wp_exit ?_)))
   refine wp_seq (rgn (by kernel_rfl) (pu (slv gg nn cc) (by kernel_rfl) (seq_c (s_callTurns hI 69 [slv gg nn cc] 0 rfl (by kernel_rfl) (Sort_c _ gg nn cc ccl (daysL ((notesOf pl).take k)) (hI.hasg 0 rfl) hrr (by omega)) ?_))))
   intro cl21 w hI r22
   have r22 : Row 1 gg (nn) cc cl21 (flat eInt (sortI (daysL ((notesOf pl).take k)))) := r22
   refine seq_nil (wp_seq (rgn (by kernel_rfl) (pu (slv gg nn cc) (by kernel_rfl) (seq_c (s_callGivesIn hI 70 [slv gg nn cc] 0 rfl (by kernel_rfl) (Compact_c _ gg nn cc cl21 (sortI (daysL ((notesOf pl).take k))) (hI.hasg 0 rfl) r22 (by omega)) ?_)))))
   intro cl23 w hI r24
   refine pu (slv gg ((compactI (sortI (daysL ((notesOf pl).take k)))).length) cc) (by kernel_rfl) (pu (iv 0) (by kernel_rfl) (seq_nil (wp_ret ?_)))
   have ha : (notesOf pl).take k = notesOf pl := List.take_of_length_le (by omega)
   have e : datesC pl = (compactI (sortI (daysL ((notesOf pl).take k))), 0) := by rw [ha]; simp [datesC, codeI_ok h2 (by decide)]
   exact ⟨.tuple #[slv gg ((compactI (sortI (daysL ((notesOf pl).take k)))).length) cc, iv 0], Ret.r2 rfl rfl rfl, (by rw [e]; exact ⟨slv gg ((compactI (sortI (daysL ((notesOf pl).take k)))).length) cc, rfl, gg, cc, cl23, rfl, hI.pickL [0] (by decide) rfl, r24⟩)⟩

end Go.K
