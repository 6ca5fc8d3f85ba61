/- That the functions do what the pure definitions say: walks, as tools/lift.py writes them. No condition. -/
import Derived.Test.YtkmnjiejlgoglaaPWe
namespace Go.K
open Go.Proofs Go.RowKit
set_option linter.unusedVariables false
set_option maxRecDepth 100000
attribute [local irreducible] Seq Step CallV AnyE opX
theorem L9 (w0 : World) (Ap0_0 : Option Addr) (cp0_0 : Nat) (lp0_0 : List A2) (Ap0_1 : Option Addr) (cp0_1 : Nat) (lp0_1 : List A3) (Ap0_2 : Option Addr) (cp0_2 : Nat) (lp0_2 : List A3) (p1 : A2) (hCp0_0 : Cells w0 Ap0_0 (flat eA2 lp0_0)) (hMp0_0 : lp0_0.length ≤ 9223372036854775807) (hKp0_0 : lp0_0.length ≤ cp0_0) (hCp0_1 : Cells w0 Ap0_1 (flat eA3 lp0_1)) (hMp0_1 : lp0_1.length ≤ 9223372036854775807) (hKp0_1 : lp0_1.length ≤ cp0_1) (hCp0_2 : Cells w0 Ap0_2 (flat eA3 lp0_2)) (hMp0_2 : lp0_2.length ≤ 9223372036854775807) (hKp0_2 : lp0_2.length ≤ cp0_2) (N : Nat) (r : Bool) (hF : F9 N lp0_0 lp0_1 lp0_2 p1 = some r) : Does Try.prog 9 [.agg #[.slice Ap0_0 lp0_0.length cp0_0, .slice Ap0_1 lp0_1.length cp0_1, .slice Ap0_2 lp0_2.length cp0_2], .agg #[.int .i64 p1.a, .int .i64 p1.b]] w0 fun v w => v = .bool r ∧ Below w0.heap.size w0 w := by
 refine calls_of (n := 132) Try.func9 rfl Try.ntmps9 rfl ?_
 have hI := Inv.start w0
 unfold F9 at hF
 refine wp_seq (rgn (by kernel_rfl) (seq_c (s_boxI hI [.slice Ap0_0 lp0_0.length cp0_0, .slice Ap0_1 lp0_1.length cp0_1, .slice Ap0_2 lp0_2.length cp0_2] rfl ?_)))
 intro b245 w hI
 refine seq_c (s_boxI hI [iv p1.a, iv p1.b] rfl ?_)
 intro b246 w hI
 refine pu (.bool false) (by kernel_rfl) (seq_nil (wp_cutO (fun ρ w => ∃ (v249 : Bool), Agree ρ [(2, .pointer (some ⟨b245, 0, none⟩)), (3, .pointer (some ⟨b246, 0, none⟩)), (5, .bool v249)] ∧ Inv [] w0 w [(some b245, blk [.slice Ap0_0 lp0_0.length cp0_0, .slice Ap0_1 lp0_1.length cp0_1, .slice Ap0_2 lp0_2.length cp0_2] 96), (some b246, blk [iv p1.a, iv p1.b] 101)] ∧ F9j1 lp0_0 lp0_1 lp0_2 p1 N v249 = some r) ?_ ?_))
 ·
  refine rgn (by kernel_rfl) (bindE hF (fun y487 hy488 hF => ?_))
  refine ifE hF (fun h164 hF => ?_) (fun h164 hF => ?_)
  ·
   refine seq_c (s_callv hI 11 [] (.bool true) (by kernel_rfl) (Does.mono (L11 _ N _ hy488) (fun v' w' h => ⟨h.1.trans (congrArg Value.bool h164), h.2⟩)) ?_)
   intro w hI
   refine pu (.bool true) (by kernel_rfl) (seq_nil ?_)
   exact .inl ⟨rfl, ⟨true, ⟨rfl, rfl, rfl, trivial⟩, hI.pickL [1, 0] (by decide) rfl, hF⟩⟩
  ·
   refine seq_c (s_callv hI 11 [] (.bool false) (by kernel_rfl) (Does.mono (L11 _ N _ hy488) (fun v' w' h => ⟨h.1.trans (congrArg Value.bool (Bool.eq_false_iff.2 h164)), h.2⟩)) ?_)
   intro w hI
   refine pu (.bool false) (by kernel_rfl) (seq_nil ?_)
   exact .inl ⟨rfl, ⟨false, ⟨rfl, rfl, rfl, trivial⟩, hI.pickL [1, 0] (by decide) rfl, hF⟩⟩
 ·intro ρ w hJ
  obtain ⟨v249, hag, hI, hF⟩ := hJ
  obtain ⟨ρ, rfl⟩ := hag.form; clear hag
  unfold F9j1 at hF
  refine wp_seq (rgn (by kernel_rfl) (seq_c (s_loadK hI 0 3 [.slice Ap0_0 lp0_0.length cp0_0, .slice Ap0_1 lp0_1.length cp0_1, .slice Ap0_2 lp0_2.length cp0_2] Try.isAgg96 Try.sizeOf96 rfl rfl rfl rfl ?_)))
  refine bindE hF (fun y265 hy266 hF => ?_)
  refine seq_c (s_call 54 [.agg #[.slice Ap0_0 lp0_0.length cp0_0, .slice Ap0_1 lp0_1.length cp0_1, .slice Ap0_2 lp0_2.length cp0_2]] (by kernel_rfl) (L54 _ Ap0_0 cp0_0 lp0_0 Ap0_1 cp0_1 lp0_1 Ap0_2 cp0_2 lp0_2 (hCp0_0.inv0 hI) hMp0_0 hKp0_0 (hCp0_1.inv0 hI) hMp0_1 hKp0_1 (hCp0_2.inv0 hI) hMp0_2 hKp0_2 N _ hy266) ?_)
  rintro v w ⟨g267, c268, cl269, g270, c271, cl272, g273, c274, cl275, rfl, hN, r276, r277, r278⟩
  have hI := hI.join hN; clear hN
  refine pu (.tuple #[.agg #[slv g267 y265.1.length c268, slv g270 y265.2.1.length c271], slv g273 y265.2.2.length c274]) (by kernel_rfl) (pu (.agg #[slv g267 y265.1.length c268, slv g270 y265.2.1.length c271]) (by kernel_rfl) (pu (slv g273 y265.2.2.length c274) (by kernel_rfl) (seq_c (s_allocI hI [.slice none 0 0, .slice none 0 0] Try.zeroValue25 rfl ?_))))
  intro b279 w hI
  refine seq_c (s_store hI 0 2 [slv g267 y265.1.length c268, slv g270 y265.2.1.length c271] Try.sizeOf25 rfl rfl rfl rfl rfl (Nat.le_of_ble_eq_true rfl) ?_)
  intro w hI
  refine pu (slv g273 y265.2.2.length c274) (by kernel_rfl) (seq_nil (wp_seq (rgn (by kernel_rfl) (seq_c (s_loadK hI 0 2 [slv g267 y265.1.length c268, slv g270 y265.2.1.length c271] Try.isAgg25 Try.sizeOf25 rfl rfl rfl rfl ?_)))))
  refine pu (slv g273 y265.2.2.length c274) (by kernel_rfl) (bindE hF (fun y283 hy284 hF => ?_))
  refine seq_c (s_callv hI 37 [.agg #[slv g267 y265.1.length c268, slv g270 y265.2.1.length c271], slv g273 y265.2.2.length c274] (.tuple #[.agg #[iv y283.1, iv y283.2.1], iv y283.2.2]) (by kernel_rfl) (L37 _ (g267.map fun b => ⟨b, 0, none⟩) c268 y265.1 (g270.map fun b => ⟨b, 0, none⟩) c271 y265.2.1 (g273.map fun b => ⟨b, 0, none⟩) c274 y265.2.2 (hI.rowCells 1 rfl r276) (len_le rfl r276.big) (len_le rfl r276.cap) (hI.rowCells 2 rfl r277) (len_le rfl r277.big) (len_le rfl r277.cap) (hI.rowCells 3 rfl r278) (len_le rfl r278.big) (len_le rfl r278.cap) N _ hy284) ?_)
  intro w hI
  refine pu (.tuple #[.agg #[iv y283.1, iv y283.2.1], iv y283.2.2]) (by kernel_rfl) (pu (.agg #[iv y283.1, iv y283.2.1]) (by kernel_rfl) (pu (iv y283.2.2) (by kernel_rfl) (seq_c (s_allocI hI [iv 0, iv 0] Try.zeroValue51 rfl ?_))))
  intro b285 w hI
  refine seq_c (s_store hI 0 2 [iv y283.1, iv y283.2.1] Try.sizeOf51 rfl rfl rfl rfl rfl (Nat.le_of_ble_eq_true rfl) ?_)
  intro w hI
  refine pu (iv y283.2.2) (by kernel_rfl) (seq_nil (wp_seq (wp_cutO (fun ρ w => ∃ (v288 : Bool), Agree ρ [(3, .pointer (some ⟨b246, 0, none⟩)), (5, .bool v288), (6, .pointer (some ⟨b279, 0, none⟩)), (7, slv g273 y265.2.2.length c274), (8, .pointer (some ⟨b285, 0, none⟩)), (9, iv y283.2.2), (34, .bool true)] ∧ Inv [] w0 w [(some b246, blk [iv p1.a, iv p1.b] 101), (some b279, blk [slv g267 y265.1.length c268, slv g270 y265.2.1.length c271] 25), (g267, blk cl269 30), (g270, blk cl272 32), (g273, blk cl275 34), (some b285, blk [iv y283.1, iv y283.2.1] 51)] ∧ F9j2 y283 v288 = some r) ?_ ?_)))
  ·
   have hG := hF; rcases Bool.eq_false_or_eq_true v249 with rfl | rfl
   ·
    have hF := hG; clear hG
    refine ifE hF (fun _ hF => ?_) (fun h => absurd rfl h)
    refine rgn (by kernel_rfl) (pu (.bool true) (by kernel_rfl) (pu (.bool false) (by kernel_rfl) (pu (.bool false) (by kernel_rfl) (puo (iv y283.2.2) ⟨(by kernel_rfl), (by kernel_rfl)⟩ (ifE hF (fun h91 hF => ?_) (fun h91 hF => ?_))))))
    ·
     refine seq_on (by kernel_rfl) (s_neq rfl rfl (fun h => absurd (a := y283.2.2 = 0) h91 h) (fun _ => ?_))
     refine pu (.bool false) (by kernel_rfl) (seq_nil (.inr ?_))
     refine wp_condF rfl (wp_skip (wp_seq (rgn (by kernel_rfl) (pu (.pointer (some ⟨b246, 1, none⟩)) (by kernel_rfl) (seq_c (s_load1 hI 6 (iv p1.b) Try.isAgg3 rfl rfl rfl ?_))))))
     refine pu (slv g273 y265.2.2.length c274) (by kernel_rfl) (pu (iv ((y265.2.2.length : Nat) : Int)) (by kernel_rfl) (bindE hF (fun y292 hy293 hF => ?_)))
     refine seq_c (s_callv hI 56 [iv p1.b, iv (y265.2.2.length : Int)] (iv y292) (by kernel_rfl) (L56 _ p1.b (y265.2.2.length : Int) _ hy293) ?_)
     intro w hI
     refine pu (iv y292) (by kernel_rfl) (seq_nil (wp_seq (rgn (by kernel_rfl) (seq_c (s_new hI [] 34 (fun b => slv (some b) 0 0) (by kernel_rfl) ?_)))))
     intro b299 w hI
     refine pu (slv g273 y265.2.2.length c274) (by kernel_rfl) (gdE hF (fun h93 hF => ?_))
     refine seq_c (s_appN hI Try.underlying26 (z := .agg #[iv 0, iv 0, iv 0, iv 0]) (k := 4) (bytes := 32) (by kernel_rfl) rfl rfl 0 rfl rfl (Row.zero_ 4 b299) (flat eCl y265.2.2) rfl (flat_len eCl_len _) (hI.rowCells 5 rfl r278) (flat_cell eCl_cell _) (by omega) (by omega) (n2 := y265.2.2.length) (app_len0 rfl) ?_)
     intro g300 c301 cl302 w hI r303
     have r303 : Row 4 g300 y265.2.2.length c301 cl302 (flat eCl y265.2.2) := r303
     refine pu (slv g300 y265.2.2.length c301) (by kernel_rfl) (seq_nil (wp_cutO (fun ρ w => ∃ (g386 : Option Nat) (c387 : Nat) (cl388 : List Value) (g391 : Option Nat) (c392 : Nat) (cl393 : List Value) (u385 : List Ce) (u390 : List Cl), Agree ρ [(6, .pointer (some ⟨b279, 0, none⟩)), (8, .pointer (some ⟨b285, 0, none⟩)), (11, slv g391 u390.length c392)] ∧ Inv [] w0 w [(some b279, blk [slv g267 y265.1.length c268, slv g386 u385.length c387] 25), (g267, blk cl269 30), (g386, blk cl388 32), (some b285, blk [iv y283.1, iv y283.2.1] 51), (g391, blk cl393 34)] ∧ (Row 3 g386 (u385.length) c387 cl388 (flat eCe u385)) ∧ (Row 4 g391 (u390.length) c392 cl393 (flat eCl u390)) ∧ F9j3 N y265 y283 u385 u390 = some r) ?_ ?_))
     ·
      refine wp_seq (rgn (by kernel_rfl) (pu (.pointer (some ⟨b246, 0, none⟩)) (by kernel_rfl) (seq_c (s_load1 hI 7 (iv p1.a) Try.isAgg3 rfl rfl rfl ?_))))
      refine bindE hF (fun y408 hy409 hF => ?_)
      refine seq_c (s_callv hI 56 [iv p1.a, iv 4] (iv y408) (by kernel_rfl) (L56 _ p1.a 4 _ hy409) ?_)
      intro w hI
      refine seq_nil (wp_block ?_)
      refine wp_seq (rgn (by kernel_rfl) (ifE hF (fun h133 hF => ?_) (fun h133 hF => ?_)))
      ·
       refine seq_c (s_eql rfl rfl (fun _ => ?_) (fun h => absurd (a := y408 = 0) h133 h))
       refine pu (.bool true) (by kernel_rfl) (seq_nil (wp_condT rfl (wp_seq (rgn (by kernel_rfl) (pu (slv g300 y265.2.2.length c301) (by kernel_rfl) (pu (iv y292) (by kernel_rfl) (gdE hF (fun h134 hF => ?_))))))))
       refine bindE hF (fun x410 hx411 hF => ?_)
       obtain ⟨b412, rfl, he413⟩ := r303.at_ eCl_len (by decide) hx411
       refine seq_c (s_indexR (y292).toNat Try.underlying26 Try.sizeOf34 rfl rfl (Int.toNat_of_nonneg h134).symm (lt_n hx411 rfl) ?_)
       refine pu (.pointer (some ⟨b412, (y292).toNat * 4 + 2, none⟩)) (by kernel_rfl) ?_
       have := lt_n hx411 rfl
       refine seq_c (s_store hI 0 1 [iv 0] Try.sizeOf3 rfl rfl rfl rfl rfl (r303.roomF (no := 2) (s := 1) (by omega) (by decide)) ?_)
       intro w hI
       have r414 := r303.putF eCl_len (by decide) (y292).toNat 2 (⟨x410.fam, x410.hd, 0, x410.to⟩ : Cl) [iv 0] hx411 (Nat.le_of_ble_eq_true rfl) rfl (by omega)
       obtain ⟨cl415, hcl⟩ : ∃ z, z = putCells cl302 ((y292).toNat * 4 + 2) [iv 0] := ⟨_, rfl⟩
       rw [← hcl] at r414
       have hI : Inv [] w0 w [(some b412, blk cl415 34), (some b285, blk [iv y283.1, iv y283.2.1] 51), (some b279, blk [slv g267 y265.1.length c268, slv g270 y265.2.1.length c271] 25), (g267, blk cl269 30), (g270, blk cl272 32), (g273, blk cl275 34), (some b245, blk [.slice Ap0_0 lp0_0.length cp0_0, .slice Ap0_1 lp0_1.length cp0_1, .slice Ap0_2 lp0_2.length cp0_2] 96), (some b246, blk [iv p1.a, iv p1.b] 101)] := by rw [hcl]; exact hI
       clear hcl
       refine seq_nil (rgn (by kernel_rfl) (pu (slv (some b412) y265.2.2.length c301) (by kernel_rfl) (pu (iv y292) (by kernel_rfl) (pu (.pointer (some ⟨b279, 1, none⟩)) (by kernel_rfl) (seq_c (s_load1 hI 2 (slv g270 y265.2.1.length c271) Try.isAgg23 rfl rfl rfl ?_))))))
       refine pu (iv ((y265.2.1.length : Nat) : Int)) (by kernel_rfl) (ckE hF (fun h135 hF => ?_))
       refine seq_c (s_sub rfl rfl h135 ?_)
       refine bindE hF (fun x416 hx417 hF => ?_)
       have he418 := r414.atS eCl_len (by decide) hx417
       refine seq_c (s_indexR (y292).toNat Try.underlying26 Try.sizeOf34 rfl rfl (Int.toNat_of_nonneg h134).symm (lt_n hx417 (set_len rfl)) ?_)
       refine pu (.pointer (some ⟨b412, (y292).toNat * 4 + 3, none⟩)) (by kernel_rfl) ?_
       have := lt_n hx417 (set_len rfl)
       refine seq_c (s_store hI 0 1 [iv ((y265.2.1.length : Int) - 1)] Try.sizeOf3 rfl rfl rfl rfl rfl (r414.roomF (no := 3) (s := 1) (by omega) (by decide)) ?_)
       intro w hI
       have r419 := r414.putF eCl_len (by decide) (y292).toNat 3 (⟨x416.fam, x416.hd, x416.fr, (y265.2.1.length : Int) - 1⟩ : Cl) [iv ((y265.2.1.length : Int) - 1)] hx417 (Nat.le_of_ble_eq_true rfl) rfl (by omega)
       obtain ⟨cl420, hcl⟩ : ∃ z, z = putCells cl415 ((y292).toNat * 4 + 3) [iv ((y265.2.1.length : Int) - 1)] := ⟨_, rfl⟩
       rw [← hcl] at r419
       have hI : Inv [] w0 w [(some b412, blk cl420 34), (some b285, blk [iv y283.1, iv y283.2.1] 51), (some b279, blk [slv g267 y265.1.length c268, slv g270 y265.2.1.length c271] 25), (g267, blk cl269 30), (g270, blk cl272 32), (g273, blk cl275 34), (some b245, blk [.slice Ap0_0 lp0_0.length cp0_0, .slice Ap0_1 lp0_1.length cp0_1, .slice Ap0_2 lp0_2.length cp0_2] 96), (some b246, blk [iv p1.a, iv p1.b] 101)] := by rw [hcl]; exact hI
       clear hcl
       refine seq_nil ?_
       exact .inl ⟨rfl, ⟨g270, c271, cl272, some b412, c301, cl420, y265.2.1, ((y265.2.2).set (y292).toNat (⟨x410.fam, x410.hd, 0, x410.to⟩ : Cl)).set (y292).toNat (⟨x416.fam, x416.hd, x416.fr, (y265.2.1.length : Int) - 1⟩ : Cl), ⟨rfl, rfl, (slv_n (set_len (set_len rfl))), trivial⟩, hI.pickL [2, 3, 4, 1, 0] (by decide) rfl, (r277.to rfl rfl), (r419.to rfl (set_len (set_len rfl))), hF⟩⟩
      ·
       refine seq_c (s_eql rfl rfl (fun h => absurd (a := y408 = 0) h h133) (fun _ => ?_))
       refine pu (.bool false) (by kernel_rfl) (seq_nil (wp_condF rfl (wp_seq (rgn (by kernel_rfl) (ifE hF (fun h137 hF => ?_) (fun h137 hF => ?_))))))
       ·
        refine seq_c (s_eql rfl rfl (fun _ => ?_) (fun h => absurd (a := y408 = 1) h137 h))
        refine pu (.bool true) (by kernel_rfl) (seq_nil (wp_condT rfl (rgn (by kernel_rfl) (pu (slv g300 y265.2.2.length c301) (by kernel_rfl) (pu (iv y292) (by kernel_rfl) (gdE hF (fun h138 hF => ?_)))))))
        refine bindE hF (fun x421 hx422 hF => ?_)
        obtain ⟨b423, rfl, he424⟩ := r303.at_ eCl_len (by decide) hx422
        refine seq_c (s_indexR (y292).toNat Try.underlying26 Try.sizeOf34 rfl rfl (Int.toNat_of_nonneg h138).symm (lt_n hx422 rfl) ?_)
        refine pu (.pointer (some ⟨b423, (y292).toNat * 4 + 1, none⟩)) (by kernel_rfl) ?_
        have := lt_n hx422 rfl
        refine seq_c (s_store hI 0 1 [iv 1] Try.sizeOf3 rfl rfl rfl rfl rfl (r303.roomF (no := 1) (s := 1) (by omega) (by decide)) ?_)
        intro w hI
        have r425 := r303.putF eCl_len (by decide) (y292).toNat 1 (⟨x421.fam, 1, x421.fr, x421.to⟩ : Cl) [iv 1] hx422 (Nat.le_of_ble_eq_true rfl) rfl (by omega)
        obtain ⟨cl426, hcl⟩ : ∃ z, z = putCells cl302 ((y292).toNat * 4 + 1) [iv 1] := ⟨_, rfl⟩
        rw [← hcl] at r425
        have hI : Inv [] w0 w [(some b423, blk cl426 34), (some b285, blk [iv y283.1, iv y283.2.1] 51), (some b279, blk [slv g267 y265.1.length c268, slv g270 y265.2.1.length c271] 25), (g267, blk cl269 30), (g270, blk cl272 32), (g273, blk cl275 34), (some b245, blk [.slice Ap0_0 lp0_0.length cp0_0, .slice Ap0_1 lp0_1.length cp0_1, .slice Ap0_2 lp0_2.length cp0_2] 96), (some b246, blk [iv p1.a, iv p1.b] 101)] := by rw [hcl]; exact hI
        clear hcl
        refine seq_nil ?_
        exact .inl ⟨rfl, ⟨g270, c271, cl272, some b423, c301, cl426, y265.2.1, (y265.2.2).set (y292).toNat (⟨x421.fam, 1, x421.fr, x421.to⟩ : Cl), ⟨rfl, rfl, (slv_n (set_len rfl)), trivial⟩, hI.pickL [2, 3, 4, 1, 0] (by decide) rfl, (r277.to rfl rfl), (r425.to rfl (set_len rfl)), hF⟩⟩
       ·
        refine seq_c (s_eql rfl rfl (fun h => absurd (a := y408 = 1) h h137) (fun _ => ?_))
        refine pu (.bool false) (by kernel_rfl) (seq_nil (wp_condF rfl (wp_seq (rgn (by kernel_rfl) (ifE hF (fun h140 hF => ?_) (fun h140 hF => ?_))))))
        ·
         refine seq_c (s_eql rfl rfl (fun _ => ?_) (fun h => absurd (a := y408 = 2) h140 h))
         refine pu (.bool true) (by kernel_rfl) (seq_nil (wp_condT rfl (wp_seq (gdE hF (fun h149 hF => ?_)))))
         refine gdE hF (fun h150 hF => ?_)
         refine gdE hF (fun h151 hF => ?_)
         refine gdE hF (fun h152 hF => ?_)
         refine ckE hF (fun h153 hF => ?_)
         refine gdE hF (fun h154 hF => ?_)
         refine gdE hF (fun h155 hF => ?_)
         refine gdE hF (fun h156 hF => ?_)
         replace hI := hI.pickL [1, 2, 3, 4, 6, 7, 0, 5] (by decide) rfl
         refine wp_drawn2 hI [0, 1, 2, 3, 4, 5] (by decide) rfl (by kernel_rfl) (by kernel_rfl) ?_
         intro hsub
         refine alp 1 (slv g273 y265.2.2.length c274) hsub rfl (by kernel_rfl) (fun _ => (by kernel_rfl)) ?_
         refine alp 2 (iv y292) hsub rfl (by kernel_rfl) (fun _ => (by kernel_rfl)) ?_
         obtain ⟨b460, rfl⟩ := r278.some_ (len_ge rfl h149)
         have r461 : Row 4 (some b460) (y265.2.2.take (y292).toNat).length c274 cl275 (flat eCl (y265.2.2.take (y292).toNat)) := (r278.cut eCl_len (by decide) (y292).toNat (len_ge rfl h151)).to rfl (take_len2 h151)
         refine al_light 3 (slv (some b460) ((y265.2.2.take (y292).toNat).length) c274) hsub rfl (by kernel_rfl) (fun w hI => s_sliceHiN Try.underlying26 Try.sizeOf34 rfl (congrArg (Value.int .i64) (Int.toNat_of_nonneg h150).symm) (take_len2 h151) (Nat.le_trans h151 (len_le rfl r278.cap)) ⟨rfl, Below.refl _ _⟩) ?_
         refine alp 5 (slv (some b460) y265.2.2.length c274) hsub rfl (by kernel_rfl) (fun _ => (by kernel_rfl)) ?_
         refine alp 6 (iv y292) hsub rfl (by kernel_rfl) (fun _ => (by kernel_rfl)) ?_
         refine al_light 7 (iv (y292 + 1)) hsub rfl (by kernel_rfl) (fun w hI => s_add rfl rfl h153 ⟨rfl, Below.refl _ _⟩) ?_
         refine al_light 8 (.slice (K.sub (some (⟨b460, 0, none⟩ : Addr)) c274 ((y292 + 1).toNat) 4) ((y265.2.2.drop ((y292 + 1).toNat)).length) (c274 - ((y292 + 1).toNat))) hsub rfl (by kernel_rfl) (fun w hI => s_sliceLoN Try.underlying26 Try.sizeOf34 rfl (congrArg (Value.int .i64) (Int.toNat_of_nonneg h154).symm) (len_ge rfl h155) (drop_len2 rfl h155) r278.cap ⟨rfl, Below.refl _ _⟩) ?_
         refine any_heavy [0] (by kernel_rfl) rfl (each1 ?_)
         intro w hI
         refine ol_c rfl (s_new hI [] 34 (fun b => slv (some b) 0 0) (by kernel_rfl) ?_)
         intro b462 w hI
         refine ⟨_, hI, subk (fun _ h => h.pickL [1, 2, 3, 4, 5, 6] (by decide) rfl) ?_⟩
         intro hsub
         refine any_heavy [4] (by kernel_rfl) rfl (each1 ?_)
         intro w hI
         refine ol_c rfl (s_appN hI Try.underlying26 (z := .agg #[iv 0, iv 0, iv 0, iv 0]) (k := 4) (bytes := 32) (by kernel_rfl) rfl rfl 0 rfl rfl (Row.zero_ 4 b462) (flat eCl (y265.2.2.take (y292).toNat)) rfl (flat_len eCl_len _) (hI.rowCells 8 rfl r461) (flat_cell eCl_cell _) (by omega) (by omega) (n2 := (y265.2.2.take (y292).toNat).length) (app_len0 rfl) ?_)
         intro g463 c464 cl465 w hI r466
         refine ⟨_, hI, subk (fun _ h => h.pickL [1, 2, 3, 4, 5, 6] (by decide) rfl) ?_⟩
         intro hsub
         have r466 : Row 4 g463 ((y265.2.2.take (y292).toNat).length) c464 cl465 (flat eCl (y265.2.2.take (y292).toNat)) := r466
         refine any_heavy [9] (by kernel_rfl) rfl (each1 ?_)
         intro w hI
         refine ol_c rfl (s_appN hI Try.underlying26 (z := .agg #[iv 0, iv 0, iv 0, iv 0]) (k := 4) (bytes := 32) (by kernel_rfl) rfl rfl 0 rfl rfl r466 (flat eCl (y265.2.2.drop ((y292 + 1).toNat))) rfl (flat_len eCl_len _) (Cells.fromRow eCl_len (hI.rowCells 8 rfl (r278.to rfl rfl)) h155 r278.cap rfl) (flat_cell eCl_cell _) (by omega) (by omega) (n2 := ((y265.2.2.take (y292).toNat) ++ (y265.2.2.drop ((y292 + 1).toNat))).length) (app_len rfl rfl) ?_)
         intro g467 c468 cl469 w hI r470
         refine ⟨_, hI, subk (fun _ h => h.pickL [1, 2, 3, 4, 5, 6] (by decide) rfl) ?_⟩
         intro hsub
         have r470 : Row 4 g467 (((y265.2.2.take (y292).toNat) ++ (y265.2.2.drop ((y292 + 1).toNat))).length) c468 cl469 (flat eCl ((y265.2.2.take (y292).toNat) ++ (y265.2.2.drop ((y292 + 1).toNat)))) := r470.more
         refine alp 10 (slv g467 (((y265.2.2.take (y292).toNat) ++ (y265.2.2.drop ((y292 + 1).toNat))).length) c468) hsub rfl (by kernel_rfl) (fun _ => (by kernel_rfl)) ?_
         refine any_end (by kernel_rfl) (fun w hI => ?_)
         refine wp_seq (rgn (by kernel_rfl) (pu (slv g467 (((y265.2.2.take (y292).toNat) ++ (y265.2.2.drop ((y292 + 1).toNat))).length) c468) (by kernel_rfl) (pu (iv ((((y265.2.2.take (y292).toNat) ++ (y265.2.2.drop ((y292 + 1).toNat))).length : Nat) : Int)) (by kernel_rfl) (ifE hF (fun h158 hF => ?_) (fun h158 hF => ?_)))))
         ·
          refine seq_c (s_eql rfl rfl (fun _ => ?_) (fun h => absurd (a := (((y265.2.2.take (y292).toNat) ++ (y265.2.2.drop ((y292 + 1).toNat))).length : Int) = 0) h158 h))
          refine seq_nil (wp_condT rfl (wp_seq (rgn (by kernel_rfl) (pu (.bool true) (by kernel_rfl) (seq_nil (wp_ret ?_))))))
          replace hF := Option.some.inj hF; subst hF
          exact ⟨.bool true, Ret.r1 rfl rfl, ⟨rfl, hI.below⟩⟩
         ·
          refine seq_c (s_eql rfl rfl (fun h => absurd (a := (((y265.2.2.take (y292).toNat) ++ (y265.2.2.drop ((y292 + 1).toNat))).length : Int) = 0) h h158) (fun _ => ?_))
          refine seq_nil (wp_condF rfl (wp_skip ?_))
          exact .inl ⟨rfl, ⟨g270, c271, cl272, g467, c468, cl469, y265.2.1, (y265.2.2.take (y292).toNat) ++ (y265.2.2.drop ((y292 + 1).toNat)), ⟨rfl, rfl, rfl, trivial⟩, hI.pickL [2, 3, 4, 1, 0] (by decide) rfl, (r277.to rfl rfl), (r470.to rfl rfl), hF⟩⟩
        ·
         refine seq_c (s_eql rfl rfl (fun h => absurd (a := y408 = 2) h h140) (fun _ => ?_))
         refine pu (.bool false) (by kernel_rfl) (seq_nil (wp_condF rfl (wp_seq (rgn (by kernel_rfl) (ifE hF (fun h160 hF => ?_) (fun h160 hF => ?_))))))
         ·
          refine seq_c (s_eql rfl rfl (fun _ => ?_) (fun h => absurd (a := y408 = 3) h160 h))
          refine pu (.bool true) (by kernel_rfl) (seq_nil (wp_condT rfl (wp_seq (rgn (by kernel_rfl) (pu (.pointer (some ⟨b246, 1, none⟩)) (by kernel_rfl) (seq_c (s_load1 hI 7 (iv p1.b) Try.isAgg3 rfl rfl rfl ?_)))))))
          refine pu (.pointer (some ⟨b279, 1, none⟩)) (by kernel_rfl) (seq_c (s_load1 hI 2 (slv g270 y265.2.1.length c271) Try.isAgg23 rfl rfl rfl ?_))
          refine pu (iv ((y265.2.1.length : Nat) : Int)) (by kernel_rfl) (bindE hF (fun y473 hy474 hF => ?_))
          refine seq_c (s_callv hI 56 [iv p1.b, iv (y265.2.1.length : Int)] (iv y473) (by kernel_rfl) (L56 _ p1.b (y265.2.1.length : Int) _ hy474) ?_)
          intro w hI
          refine pu (iv y473) (by kernel_rfl) (seq_nil (gdE hF (fun h161 hF => ?_)))
          refine bindE hF (fun x475 hx476 hF => ?_)
          refine ckE hF (fun h162 hF => ?_)
          refine bindE hF (fun y479 hy480 hF => ?_)
          refine ckE hF (fun h163 hF => ?_)
          replace hI := hI.pickL [0, 1, 2, 3, 5, 6, 7, 4] (by decide) rfl
          refine wp_drawn2 hI [0, 1, 2, 3, 4, 5, 6] (by decide) rfl (by kernel_rfl) (by kernel_rfl) ?_
          intro hsub
          refine alp 0 (.pointer (some ⟨b279, 1, none⟩)) hsub rfl (by kernel_rfl) (fun _ => (by kernel_rfl)) ?_
          refine al_light 1 (slv g270 y265.2.1.length c271) hsub rfl (by kernel_rfl) (fun w hI => s_load1 hI 2 (slv g270 y265.2.1.length c271) Try.isAgg23 rfl rfl rfl ⟨rfl, Below.refl _ _⟩) ?_
          refine alp 2 (iv y473) hsub rfl (by kernel_rfl) (fun _ => (by kernel_rfl)) ?_
          refine alp 3 (.pointer (some ⟨b279, 1, none⟩)) hsub rfl (by kernel_rfl) (fun _ => (by kernel_rfl)) ?_
          refine al_light 4 (slv g270 y265.2.1.length c271) hsub rfl (by kernel_rfl) (fun w hI => s_load1 hI 2 (slv g270 y265.2.1.length c271) Try.isAgg23 rfl rfl rfl ⟨rfl, Below.refl _ _⟩) ?_
          refine alp 5 (iv y473) hsub rfl (by kernel_rfl) (fun _ => (by kernel_rfl)) ?_
          obtain ⟨b483, rfl, he484⟩ := r277.at_ eCe_len (by decide) hx476
          refine al_light 6 (.pointer (some ⟨b483, (y473).toNat * 3, none⟩)) hsub rfl (by kernel_rfl) (fun w hI => s_indexR (y473).toNat Try.underlying23 Try.sizeOf32 rfl rfl (Int.toNat_of_nonneg h161).symm (lt_n hx476 rfl) ⟨rfl, Below.refl _ _⟩) ?_
          refine alp 7 (.pointer (some ⟨b483, (y473).toNat * 3 + 2, none⟩)) hsub rfl (by kernel_rfl) (fun _ => (by kernel_rfl)) ?_
          refine alp 10 (.pointer (some ⟨b246, 1, none⟩)) hsub rfl (by kernel_rfl) (fun _ => (by kernel_rfl)) ?_
          refine al_light 11 (iv p1.b) hsub rfl (by kernel_rfl) (fun w hI => s_load1 hI 6 (iv p1.b) Try.isAgg3 rfl rfl rfl ⟨rfl, Below.refl _ _⟩) ?_
          refine al_light 12 (iv y479) hsub rfl (by kernel_rfl) (fun w hI => s_call 56 [iv p1.b, iv 7] (by kernel_rfl) (L56 _ p1.b 7 _ hy480) (fun v' w' h => h)) ?_
          refine any_heavy [8] (by kernel_rfl) rfl (each1 ?_)
          intro w hI
          refine ol_c rfl (s_loadR1 hI 7 (iv x475.wo) Try.isAgg3 rfl rfl (he484 2 _ rfl) ?_)
          refine ⟨_, hI, subk (fun _ h => h.pickL [0, 1, 2, 3, 4, 5, 6] (by decide) rfl) ?_⟩
          intro hsub
          refine al_light 9 (iv (x475.wo + 1)) hsub rfl (by kernel_rfl) (fun w hI => s_add rfl rfl h162 ⟨rfl, Below.refl _ _⟩) ?_
          refine al_light 13 (iv ((x475.wo + 1) + y479)) hsub rfl (by kernel_rfl) (fun w hI => s_add rfl rfl h163 ⟨rfl, Below.refl _ _⟩) ?_
          refine al_light 14 (.pointer (some ⟨b483, (y473).toNat * 3, none⟩)) hsub rfl (by kernel_rfl) (fun w hI => s_indexR (y473).toNat Try.underlying23 Try.sizeOf32 rfl rfl (Int.toNat_of_nonneg h161).symm (lt_n hx476 rfl) ⟨rfl, Below.refl _ _⟩) ?_
          refine alp 15 (.pointer (some ⟨b483, (y473).toNat * 3 + 2, none⟩)) hsub rfl (by kernel_rfl) (fun _ => (by kernel_rfl)) ?_
          refine any_heavy [16] (by kernel_rfl) rfl (each1 ?_)
          intro w hI
          have := lt_n hx476 rfl
          refine ol_c rfl (s_store hI 7 1 [iv ((x475.wo + 1) + y479)] Try.sizeOf3 rfl rfl rfl rfl rfl (r277.roomF (no := 2) (s := 1) (by omega) (by decide)) ?_)
          intro w hI
          refine ⟨_, hI, subk (fun _ h => h.pickL [0, 1, 2, 3, 4, 5, 6] (by decide) rfl) ?_⟩
          intro hsub
          have r485 := r277.putF eCe_len (by decide) (y473).toNat 2 (⟨x475.ch, x475.ln, (x475.wo + 1) + y479⟩ : Ce) [iv ((x475.wo + 1) + y479)] hx476 (Nat.le_of_ble_eq_true rfl) rfl (by omega)
          refine any_end (by kernel_rfl) (fun w hI => ?_)
          have hI : Inv [] w0 w [(g300, blk cl302 34), (some b285, blk [iv y283.1, iv y283.2.1] 51), (some b279, blk [slv g267 y265.1.length c268, slv (some b483) (((y265.2.1).set (y473).toNat (⟨x475.ch, x475.ln, (x475.wo + 1) + y479⟩ : Ce)).length) c271] 25), (g267, blk cl269 30), (g273, blk cl275 34), (some b245, blk [.slice Ap0_0 lp0_0.length cp0_0, .slice Ap0_1 lp0_1.length cp0_1, .slice Ap0_2 lp0_2.length cp0_2] 96), (some b246, blk [iv p1.a, iv p1.b] 101), (some b483, blk (putCells cl272 ((y473).toNat * 3 + 2) [iv ((x475.wo + 1) + y479)]) 32)] := by rw [← (set_len rfl)]; exact hI
          exact .inl ⟨rfl, ⟨some b483, c271, putCells cl272 ((y473).toNat * 3 + 2) [iv ((x475.wo + 1) + y479)], g300, c301, cl302, (y265.2.1).set (y473).toNat (⟨x475.ch, x475.ln, (x475.wo + 1) + y479⟩ : Ce), y265.2.2, ⟨rfl, rfl, rfl, trivial⟩, hI.pickL [2, 3, 7, 1, 0] (by decide) rfl, (r485.to rfl (set_len rfl)), (r303.to rfl rfl), hF⟩⟩
         ·
          refine seq_c (s_eql rfl rfl (fun h => absurd (a := y408 = 3) h h160) (fun _ => ?_))
          refine pu (.bool false) (by kernel_rfl) (seq_nil (wp_condF rfl (wp_skip ?_)))
          exact .inl ⟨rfl, ⟨g270, c271, cl272, g300, c301, cl302, y265.2.1, y265.2.2, ⟨rfl, rfl, rfl, trivial⟩, hI.pickL [2, 3, 4, 1, 0] (by decide) rfl, (r277.to rfl rfl), (r303.to rfl rfl), hF⟩⟩
     ·intro ρ w hJ
      obtain ⟨g386, c387, cl388, g391, c392, cl393, u385, u390, hag, hI, r389, r394, hF⟩ := hJ
      obtain ⟨ρ, rfl⟩ := hag.form; clear hag
      unfold F9j3 at hF
      refine wp_seq (rgn (by kernel_rfl) (seq_c (s_loadK hI 0 2 [slv g267 y265.1.length c268, slv g386 u385.length c387] Try.isAgg25 Try.sizeOf25 rfl rfl rfl rfl ?_)))
      refine pu (slv g391 u390.length c392) (by kernel_rfl) (bindE hF (fun y398 hy399 hF => ?_))
      refine seq_c (s_callv hI 37 [.agg #[slv g267 y265.1.length c268, slv g386 u385.length c387], slv g391 u390.length c392] (.tuple #[.agg #[iv y398.1, iv y398.2.1], iv y398.2.2]) (by kernel_rfl) (L37 _ (g267.map fun b => ⟨b, 0, none⟩) c268 y265.1 (g386.map fun b => ⟨b, 0, none⟩) c387 u385 (g391.map fun b => ⟨b, 0, none⟩) c392 u390 (hI.rowCells 1 rfl r276) (len_le rfl r276.big) (len_le rfl r276.cap) (hI.rowCells 2 rfl r389) (len_le rfl r389.big) (len_le rfl r389.cap) (hI.rowCells 4 rfl r394) (len_le rfl r394.big) (len_le rfl r394.cap) N _ hy399) ?_)
      intro w hI
      refine pu (.tuple #[.agg #[iv y398.1, iv y398.2.1], iv y398.2.2]) (by kernel_rfl) (pu (.agg #[iv y398.1, iv y398.2.1]) (by kernel_rfl) (pu (iv y398.2.2) (by kernel_rfl) (seq_c (s_allocI hI [iv 0, iv 0] Try.zeroValue51 rfl ?_))))
      intro b400 w hI
      refine seq_c (s_store hI 0 2 [iv y398.1, iv y398.2.1] Try.sizeOf51 rfl rfl rfl rfl rfl (Nat.le_of_ble_eq_true rfl) ?_)
      intro w hI
      refine pu (iv y398.2.2) (by kernel_rfl) (seq_nil (wp_seq (rgn (by kernel_rfl) (seq_c (s_loadK hI 4 2 [iv y283.1, iv y283.2.1] Try.isAgg51 Try.sizeOf51 rfl rfl rfl rfl ?_)))))
      refine seq_c (s_loadK hI 0 2 [iv y398.1, iv y398.2.1] Try.isAgg51 Try.sizeOf51 rfl rfl rfl rfl ?_)
      refine bindE hF (fun y403 hy404 hF => ?_)
      refine seq_c (s_callv hI 33 [.agg #[iv y283.1, iv y283.2.1], .agg #[iv y398.1, iv y398.2.1]] (.tuple #[iv y403.1, iv y403.2]) (by kernel_rfl) (L33 _ (⟨y283.1, y283.2.1⟩ : Gn) (⟨y398.1, y398.2.1⟩ : Gn) _ hy404) ?_)
      intro w hI
      refine pu (.tuple #[iv y403.1, iv y403.2]) (by kernel_rfl) (pu (iv y403.1) (by kernel_rfl) (pu (iv y403.2) (by kernel_rfl) (pu (iv y403.1) (by kernel_rfl) (pu (iv y403.2) (by kernel_rfl) (seq_nil (wp_seq (rgn (by kernel_rfl) (pu (iv y398.2.2) (by kernel_rfl) (ifE hF (fun h129 hF => ?_) (fun h129 hF => ?_))))))))))
      ·
       refine seq_c (s_eql rfl rfl (fun _ => ?_) (fun h => absurd (a := y398.2.2 = 0) h129 h))
       refine pu (.bool true) (by kernel_rfl) (puo (iv y403.2) ⟨(by kernel_rfl), (by kernel_rfl)⟩ (ifE hF (fun h130 hF => ?_) (fun h130 hF => ?_)))
       ·
        refine seq_on (by kernel_rfl) (s_eql rfl rfl (fun _ => ?_) (fun h => absurd (a := y403.2 = 0) h130 h))
        refine pu (.bool true) (by kernel_rfl) (pu (.bool true) (by kernel_rfl) (puo (iv y403.1) ⟨(by kernel_rfl), (by kernel_rfl)⟩ (ifE hF (fun h131 hF => ?_) (fun h131 hF => ?_))))
        ·
         refine seq_on (by kernel_rfl) (s_leq rfl rfl (fun _ => ?_) (fun h => absurd (a := y403.1 ≤ 0) h131 h))
         refine pu (.bool true) (by kernel_rfl) (pu (.bool true) (by kernel_rfl) (seq_nil (wp_ret ?_)))
         replace hF := Option.some.inj hF; subst hF
         exact ⟨.bool true, Ret.r1 rfl rfl, ⟨rfl, hI.below⟩⟩
        ·
         refine seq_on (by kernel_rfl) (s_leq rfl rfl (fun h => absurd (a := y403.1 ≤ 0) h h131) (fun _ => ?_))
         refine pu (.bool false) (by kernel_rfl) (pu (.bool false) (by kernel_rfl) (seq_nil (wp_ret ?_)))
         replace hF := Option.some.inj hF; subst hF
         exact ⟨.bool false, Ret.r1 rfl rfl, ⟨rfl, hI.below⟩⟩
       ·
        refine seq_on (by kernel_rfl) (s_eql rfl rfl (fun h => absurd (a := y403.2 = 0) h h130) (fun _ => ?_))
        refine pu (.bool false) (by kernel_rfl) (pu (.bool false) (by kernel_rfl) (of_ (by kernel_rfl) (of_ (by kernel_rfl) (pu (.bool false) (by kernel_rfl) (pu (.bool false) (by kernel_rfl) (seq_nil (wp_ret ?_)))))))
        replace hF := Option.some.inj hF; subst hF
        exact ⟨.bool false, Ret.r1 rfl rfl, ⟨rfl, hI.below⟩⟩
      ·
       refine seq_c (s_eql rfl rfl (fun h => absurd (a := y398.2.2 = 0) h h129) (fun _ => ?_))
       refine pu (.bool false) (by kernel_rfl) (of_ (by kernel_rfl) (of_ (by kernel_rfl) (pu (.bool false) (by kernel_rfl) (pu (.bool false) (by kernel_rfl) (of_ (by kernel_rfl) (of_ (by kernel_rfl) (pu (.bool false) (by kernel_rfl) (pu (.bool false) (by kernel_rfl) (seq_nil ?_)))))))))
       refine wp_ret ?_
       replace hF := Option.some.inj hF; subst hF
       exact ⟨.bool false, Ret.r1 rfl rfl, ⟨rfl, hI.below⟩⟩
    ·
     refine seq_on (by kernel_rfl) (s_neq rfl rfl (fun _ => ?_) (fun h => absurd (a := y283.2.2 = 0) h h91))
     refine pu (.bool true) (by kernel_rfl) (seq_nil ?_)
     exact .inl ⟨rfl, ⟨true, ⟨rfl, rfl, rfl, rfl, rfl, rfl, rfl, trivial⟩, hI.pickL [6, 1, 2, 3, 4, 0] (by decide) rfl, hF⟩⟩
   ·
    have hF := hG; clear hG
    refine ifE hF (fun h => absurd h (by decide)) (fun _ hF => ?_)
    refine rgn (by kernel_rfl) (pu (.bool false) (by kernel_rfl) (pu (.bool true) (by kernel_rfl) (pu (.bool true) (by kernel_rfl) (of_ (by kernel_rfl) (of_ (by kernel_rfl) (pu (.bool true) (by kernel_rfl) (seq_nil ?_)))))))
    exact .inl ⟨rfl, ⟨false, ⟨rfl, rfl, rfl, rfl, rfl, rfl, rfl, trivial⟩, hI.pickL [6, 1, 2, 3, 4, 0] (by decide) rfl, hF⟩⟩
  ·intro ρ w hJ
   obtain ⟨v288, hag, hI, hF⟩ := hJ
   obtain ⟨ρ, rfl⟩ := hag.form; clear hag
   unfold F9j2 at hF
   refine wp_condT rfl (wp_seq ?_)
   have hG := hF; rcases Bool.eq_false_or_eq_true v288 with rfl | rfl
   ·
    have hF := hG; clear hG
    refine ifE hF (fun _ hF => ?_) (fun h => absurd rfl h)
    refine rgn (by kernel_rfl) (pu (.bool true) (by kernel_rfl) (pu (.bool true) (by kernel_rfl) (puo (iv y283.2.2) ⟨(by kernel_rfl), (by kernel_rfl)⟩ (ifE hF (fun h90 hF => ?_) (fun h90 hF => ?_)))))
    ·
     refine seq_on (by kernel_rfl) (s_eql rfl rfl (fun _ => ?_) (fun h => absurd (a := y283.2.2 = 47) h90 h))
     refine pu (.bool true) (by kernel_rfl) (pu (.bool true) (by kernel_rfl) (seq_nil (wp_ret ?_)))
     replace hF := Option.some.inj hF; subst hF
     exact ⟨.bool true, Ret.r1 rfl rfl, ⟨rfl, hI.below⟩⟩
    ·
     refine seq_on (by kernel_rfl) (s_eql rfl rfl (fun h => absurd (a := y283.2.2 = 47) h h90) (fun _ => ?_))
     refine pu (.bool false) (by kernel_rfl) (pu (.bool false) (by kernel_rfl) (seq_nil (wp_ret ?_)))
     replace hF := Option.some.inj hF; subst hF
     exact ⟨.bool false, Ret.r1 rfl rfl, ⟨rfl, hI.below⟩⟩
   ·
    have hF := hG; clear hG
    refine ifE hF (fun h => absurd h (by decide)) (fun _ hF => ?_)
    refine rgn (by kernel_rfl) (pu (.bool false) (by kernel_rfl) (pu (.bool false) (by kernel_rfl) (of_ (by kernel_rfl) (of_ (by kernel_rfl) (pu (.bool false) (by kernel_rfl) (pu (.bool false) (by kernel_rfl) (seq_nil (wp_ret ?_))))))))
    replace hF := Option.some.inj hF; subst hF
    exact ⟨.bool false, Ret.r1 rfl rfl, ⟨rfl, hI.below⟩⟩


end Go.K
