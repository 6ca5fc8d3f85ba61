/- That the functions do what the pure definitions say: walks, as tools/lift.py writes them. No condition. -/
import Derived.Test.YtfdjmhmjdihihaaPWc
namespace Go.K
open Go.Proofs Go.RowKit
set_option linter.unusedVariables false
set_option linter.unusedSimpArgs false
set_option maxRecDepth 100000
attribute [local irreducible] Seq Step CallV AnyE opX
theorem L59 (w0 : World) (p0 : Int) (p1 : Int) (r : Int) (hF : F59 p0 p1 = some r) : Does Try.prog 59 [.int .i64 p0, .int .i64 p1] w0 fun v w => v = .int .i64 r ∧ Below w0.heap.size w0 w := by
 refine calls_of (n := 12) Try.func59 rfl Try.ntmps59 rfl ?_
 have hI := Inv.start w0
 unfold F59 at hF
 refine wp_seq (rgn (by kernel_rfl) (pu (iv 0) (by kernel_rfl) (seq_nil (wp_seq (rgn (by kernel_rfl) (pu (iv p0) (by kernel_rfl) (pu (iv p1) (by kernel_rfl) (gdE hF (fun h3 hF => ?_)))))))))
 refine seq_c (s_rem rfl rfl h3 ?_)
 refine pu (iv p1) (by kernel_rfl) (ckE hF (fun h4 hF => ?_))
 refine seq_c (s_add rfl rfl h4 ?_)
 refine pu (iv p1) (by kernel_rfl) (seq_c (s_rem rfl rfl h3 ?_))
 refine pu (iv (((p0.tmod p1) + p1).tmod p1)) (by kernel_rfl) (seq_nil (wp_ret ?_))
 replace hF := Option.some.inj hF; subst hF
 exact ⟨iv (((p0.tmod p1) + p1).tmod p1), Ret.r1 rfl rfl, ⟨rfl, hI.below⟩⟩


theorem L8 (w0 : World) (p0 : A6) (N : Nat) (r : Bool) (hF : F8 N p0 = some r) : Does Try.prog 8 [.agg #[.int .i64 p0.a, .int .i64 p0.b, .int .i64 p0.c, .int .i64 p0.d, .int .i64 p0.e, .int .i64 p0.f]] w0 fun v w => v = .bool r ∧ Below w0.heap.size w0 w := by
 refine calls_of (n := 276) Try.func8 rfl Try.ntmps8 rfl ?_
 have hI := Inv.start w0
 unfold F8 at hF
 refine wp_seq (rgn (by kernel_rfl) (seq_c (s_boxI hI [iv p0.a, iv p0.b, iv p0.c, iv p0.d, iv p0.e, iv p0.f] rfl ?_)))
 intro b90 w hI
 refine pu (.bool false) (by kernel_rfl) (seq_nil (wp_seq (bindE hF (fun y97 hy98 hF => ?_))))
 refine bindE hF (fun y99 hy100 hF => ?_)
 refine ckE hF (fun h94 hF => ?_)
 refine wp_drawn2 hI [0] (by decide) rfl (by kernel_rfl) (by kernel_rfl) ?_
 intro hsub
 refine alp 0 (.pointer (some ⟨b90, 0, none⟩)) hsub rfl (by kernel_rfl) (fun _ => (by kernel_rfl)) ?_
 refine al_light 1 (iv p0.a) hsub rfl (by kernel_rfl) (fun w hI => s_load1 hI 0 (iv p0.a) Try.isAgg3 rfl rfl rfl ⟨rfl, Below.refl _ _⟩) ?_
 refine al_light 2 (iv y97) hsub rfl (by kernel_rfl) (fun w hI => s_call 59 [iv p0.a, iv 600] (by kernel_rfl) (L59 _ p0.a 600 _ hy98) (fun v' w' h => h)) ?_
 refine alp 3 (.agg #[iv y97, iv 0]) hsub rfl (by kernel_rfl) (fun _ => (by kernel_rfl)) ?_
 refine alp 4 (.pointer (some ⟨b90, 1, none⟩)) hsub rfl (by kernel_rfl) (fun _ => (by kernel_rfl)) ?_
 refine al_light 5 (iv p0.b) hsub rfl (by kernel_rfl) (fun w hI => s_load1 hI 0 (iv p0.b) Try.isAgg3 rfl rfl rfl ⟨rfl, Below.refl _ _⟩) ?_
 refine al_light 6 (iv y99) hsub rfl (by kernel_rfl) (fun w hI => s_call 59 [iv p0.b, iv 99] (by kernel_rfl) (L59 _ p0.b 99 _ hy100) (fun v' w' h => h)) ?_
 refine al_light 7 (iv (2 + y99)) hsub rfl (by kernel_rfl) (fun w hI => s_add rfl rfl h94 ⟨rfl, Below.refl _ _⟩) ?_
 refine alp 8 (.agg #[iv y97, iv 0, iv (2 + y99)]) hsub rfl (by kernel_rfl) (fun _ => (by kernel_rfl)) ?_
 refine any_heavy [9] (by kernel_rfl) rfl (each1 ?_)
 intro w hI
 refine ol_c rfl (s_allocI hI [iv 0, iv 0, iv 0] Try.zeroValue30 rfl ?_)
 intro b102 w hI
 refine ⟨_, hI, subk (fun _ h => h.pickL [1] (by decide) rfl) ?_⟩
 intro hsub
 refine any_heavy [10] (by kernel_rfl) rfl (each1 ?_)
 intro w hI
 refine ol_c rfl (s_store hI 0 3 [iv y97, iv 0, iv (2 + y99)] Try.sizeOf30 rfl rfl rfl rfl rfl (Nat.le_of_ble_eq_true rfl) ?_)
 intro w hI
 refine ⟨_, hI, subk (fun _ h => h.pickL [1] (by decide) rfl) ?_⟩
 intro hsub
 refine any_end (by kernel_rfl) (fun w hI => ?_)
 refine wp_seq (bindE hF (fun y105 hy106 hF => ?_))
 refine ckE hF (fun h96 hF => ?_)
 replace hI := hI.pickL [1, 0] (by decide) rfl
 refine wp_drawn2 hI [0] (by decide) rfl (by kernel_rfl) (by kernel_rfl) ?_
 intro hsub
 refine alp 0 (.pointer (some ⟨b102, 0, none⟩)) hsub rfl (by kernel_rfl) (fun _ => (by kernel_rfl)) ?_
 refine alp 1 (.pointer (some ⟨b102, 0, none⟩)) hsub rfl (by kernel_rfl) (fun _ => (by kernel_rfl)) ?_
 refine alp 3 (.pointer (some ⟨b90, 2, none⟩)) hsub rfl (by kernel_rfl) (fun _ => (by kernel_rfl)) ?_
 refine al_light 4 (iv p0.c) hsub rfl (by kernel_rfl) (fun w hI => s_load1 hI 0 (iv p0.c) Try.isAgg3 rfl rfl rfl ⟨rfl, Below.refl _ _⟩) ?_
 refine al_light 5 (iv y105) hsub rfl (by kernel_rfl) (fun w hI => s_call 59 [iv p0.c, iv 400] (by kernel_rfl) (L59 _ p0.c 400 _ hy106) (fun v' w' h => h)) ?_
 refine any_heavy [2] (by kernel_rfl) rfl (each1 ?_)
 intro w hI
 refine ol_c rfl (s_load1 hI 1 (iv y97) Try.isAgg3 rfl rfl rfl ?_)
 refine ⟨_, hI, subk (fun _ h => h.pickL [0] (by decide) rfl) ?_⟩
 intro hsub
 refine al_light 6 (iv (y97 + y105)) hsub rfl (by kernel_rfl) (fun w hI => s_add rfl rfl h96 ⟨rfl, Below.refl _ _⟩) ?_
 refine alp 7 (.pointer (some ⟨b102, 0, none⟩)) hsub rfl (by kernel_rfl) (fun _ => (by kernel_rfl)) ?_
 refine alp 8 (.pointer (some ⟨b102, 1, none⟩)) hsub rfl (by kernel_rfl) (fun _ => (by kernel_rfl)) ?_
 refine any_heavy [9] (by kernel_rfl) rfl (each1 ?_)
 intro w hI
 refine ol_c rfl (s_store hI 1 1 [iv (y97 + y105)] Try.sizeOf3 rfl rfl rfl rfl rfl (Nat.le_of_ble_eq_true rfl) ?_)
 intro w hI
 refine ⟨_, hI, subk (fun _ h => h.pickL [0] (by decide) rfl) ?_⟩
 intro hsub
 refine any_end (by kernel_rfl) (fun w hI => ?_)
 refine wp_seq (rgn (by kernel_rfl) (pu (.pointer (some ⟨b90, 3, none⟩)) (by kernel_rfl) (seq_c (s_load1 hI 0 (iv p0.d) Try.isAgg3 rfl rfl rfl ?_))))
 refine bindE hF (fun y110 hy111 hF => ?_)
 refine seq_c (s_callv hI 59 [iv p0.d, iv 1500] (iv y110) (by kernel_rfl) (L59 _ p0.d 1500 _ hy111) ?_)
 intro w hI
 refine pu (.agg #[iv y110, iv 0]) (by kernel_rfl) (seq_c (s_allocI hI [iv 0, iv 0] Try.zeroValue28 rfl ?_))
 intro b112 w hI
 refine seq_c (s_store hI 0 2 [iv y110, iv 0] Try.sizeOf28 rfl rfl rfl rfl rfl (Nat.le_of_ble_eq_true rfl) ?_)
 intro w hI
 refine seq_nil (wp_seq (bindE hF (fun y115 hy116 hF => ?_)))
 refine ckE hF (fun h98 hF => ?_)
 replace hI := hI.pickL [1, 2, 0] (by decide) rfl
 refine wp_drawn2 hI [0, 1] (by decide) rfl (by kernel_rfl) (by kernel_rfl) ?_
 intro hsub
 refine alp 0 (.pointer (some ⟨b112, 0, none⟩)) hsub rfl (by kernel_rfl) (fun _ => (by kernel_rfl)) ?_
 refine alp 2 (.pointer (some ⟨b90, 4, none⟩)) hsub rfl (by kernel_rfl) (fun _ => (by kernel_rfl)) ?_
 refine al_light 3 (iv p0.e) hsub rfl (by kernel_rfl) (fun w hI => s_load1 hI 0 (iv p0.e) Try.isAgg3 rfl rfl rfl ⟨rfl, Below.refl _ _⟩) ?_
 refine al_light 4 (iv y115) hsub rfl (by kernel_rfl) (fun w hI => s_call 59 [iv p0.e, iv 500] (by kernel_rfl) (L59 _ p0.e 500 _ hy116) (fun v' w' h => h)) ?_
 refine any_heavy [1] (by kernel_rfl) rfl (each1 ?_)
 intro w hI
 refine ol_c rfl (s_load1 hI 2 (iv y110) Try.isAgg3 rfl rfl rfl ?_)
 refine ⟨_, hI, subk (fun _ h => h.pickL [0, 1] (by decide) rfl) ?_⟩
 intro hsub
 refine al_light 5 (iv (y110 + y115)) hsub rfl (by kernel_rfl) (fun w hI => s_add rfl rfl h98 ⟨rfl, Below.refl _ _⟩) ?_
 refine alp 6 (.pointer (some ⟨b112, 1, none⟩)) hsub rfl (by kernel_rfl) (fun _ => (by kernel_rfl)) ?_
 refine any_heavy [7] (by kernel_rfl) rfl (each1 ?_)
 intro w hI
 refine ol_c rfl (s_store hI 2 1 [iv (y110 + y115)] Try.sizeOf3 rfl rfl rfl rfl rfl (Nat.le_of_ble_eq_true rfl) ?_)
 intro w hI
 refine ⟨_, hI, subk (fun _ h => h.pickL [0, 1] (by decide) rfl) ?_⟩
 intro hsub
 refine any_end (by kernel_rfl) (fun w hI => ?_)
 refine wp_seq (ckE hF (fun h102 hF => ?_))
 refine ckE hF (fun h103 hF => ?_)
 refine bindE hF (fun y119 hy120 hF => ?_)
 refine ckE hF (fun h104 hF => ?_)
 refine wp_drawn2 hI [0, 1, 2] (by decide) rfl (by kernel_rfl) (by kernel_rfl) ?_
 intro hsub
 refine alp 0 (.pointer (some ⟨b102, 0, none⟩)) hsub rfl (by kernel_rfl) (fun _ => (by kernel_rfl)) ?_
 refine alp 1 (.pointer (some ⟨b102, 0, none⟩)) hsub rfl (by kernel_rfl) (fun _ => (by kernel_rfl)) ?_
 refine al_light 2 (iv y97) hsub rfl (by kernel_rfl) (fun w hI => s_load1 hI 1 (iv y97) Try.isAgg3 rfl rfl rfl ⟨rfl, Below.refl _ _⟩) ?_
 refine alp 3 (.pointer (some ⟨b90, 5, none⟩)) hsub rfl (by kernel_rfl) (fun _ => (by kernel_rfl)) ?_
 refine al_light 4 (iv p0.f) hsub rfl (by kernel_rfl) (fun w hI => s_load1 hI 0 (iv p0.f) Try.isAgg3 rfl rfl rfl ⟨rfl, Below.refl _ _⟩) ?_
 refine alp 5 (.pointer (some ⟨b102, 0, none⟩)) hsub rfl (by kernel_rfl) (fun _ => (by kernel_rfl)) ?_
 refine alp 6 (.pointer (some ⟨b102, 1, none⟩)) hsub rfl (by kernel_rfl) (fun _ => (by kernel_rfl)) ?_
 refine al_light 7 (iv (y97 + y105)) hsub rfl (by kernel_rfl) (fun w hI => s_load1 hI 1 (iv (y97 + y105)) Try.isAgg3 rfl rfl rfl ⟨rfl, Below.refl _ _⟩) ?_
 refine alp 8 (.pointer (some ⟨b102, 0, none⟩)) hsub rfl (by kernel_rfl) (fun _ => (by kernel_rfl)) ?_
 refine alp 9 (.pointer (some ⟨b102, 0, none⟩)) hsub rfl (by kernel_rfl) (fun _ => (by kernel_rfl)) ?_
 refine al_light 10 (iv y97) hsub rfl (by kernel_rfl) (fun w hI => s_load1 hI 1 (iv y97) Try.isAgg3 rfl rfl rfl ⟨rfl, Below.refl _ _⟩) ?_
 refine al_light 11 (iv ((y97 + y105) - y97)) hsub rfl (by kernel_rfl) (fun w hI => s_sub rfl rfl h102 ⟨rfl, Below.refl _ _⟩) ?_
 refine al_light 12 (iv (((y97 + y105) - y97) + 1)) hsub rfl (by kernel_rfl) (fun w hI => s_add rfl rfl h103 ⟨rfl, Below.refl _ _⟩) ?_
 refine al_light 13 (iv y119) hsub rfl (by kernel_rfl) (fun w hI => s_call 59 [iv p0.f, iv (((y97 + y105) - y97) + 1)] (by kernel_rfl) (L59 _ p0.f (((y97 + y105) - y97) + 1) _ hy120) (fun v' w' h => h)) ?_
 refine al_light 14 (iv (y97 + y119)) hsub rfl (by kernel_rfl) (fun w hI => s_add rfl rfl h104 ⟨rfl, Below.refl _ _⟩) ?_
 refine alp 15 (iv (y97 + y119)) hsub rfl (by kernel_rfl) (fun _ => (by kernel_rfl)) ?_
 refine any_end (by kernel_rfl) (fun w hI => ?_)
 refine wp_seq (ckE hF (fun h109 hF => ?_))
 refine ckE hF (fun h110 hF => ?_)
 refine ckE hF (fun h111 hF => ?_)
 refine bindE hF (fun y123 hy124 hF => ?_)
 refine ckE hF (fun h112 hF => ?_)
 refine wp_drawn2 hI [0, 1, 2] (by decide) rfl (by kernel_rfl) (by kernel_rfl) ?_
 intro hsub
 refine alp 0 (.pointer (some ⟨b112, 0, none⟩)) hsub rfl (by kernel_rfl) (fun _ => (by kernel_rfl)) ?_
 refine al_light 1 (iv y110) hsub rfl (by kernel_rfl) (fun w hI => s_load1 hI 2 (iv y110) Try.isAgg3 rfl rfl rfl ⟨rfl, Below.refl _ _⟩) ?_
 refine alp 2 (.pointer (some ⟨b90, 5, none⟩)) hsub rfl (by kernel_rfl) (fun _ => (by kernel_rfl)) ?_
 refine al_light 3 (iv p0.f) hsub rfl (by kernel_rfl) (fun w hI => s_load1 hI 0 (iv p0.f) Try.isAgg3 rfl rfl rfl ⟨rfl, Below.refl _ _⟩) ?_
 refine al_light 4 (iv (p0.f.tdiv 7)) hsub rfl (by kernel_rfl) (fun w hI => s_quo rfl rfl (by decide) h109 ⟨rfl, Below.refl _ _⟩) ?_
 refine alp 5 (.pointer (some ⟨b112, 1, none⟩)) hsub rfl (by kernel_rfl) (fun _ => (by kernel_rfl)) ?_
 refine al_light 6 (iv (y110 + y115)) hsub rfl (by kernel_rfl) (fun w hI => s_load1 hI 2 (iv (y110 + y115)) Try.isAgg3 rfl rfl rfl ⟨rfl, Below.refl _ _⟩) ?_
 refine alp 7 (.pointer (some ⟨b112, 0, none⟩)) hsub rfl (by kernel_rfl) (fun _ => (by kernel_rfl)) ?_
 refine al_light 8 (iv y110) hsub rfl (by kernel_rfl) (fun w hI => s_load1 hI 2 (iv y110) Try.isAgg3 rfl rfl rfl ⟨rfl, Below.refl _ _⟩) ?_
 refine al_light 9 (iv ((y110 + y115) - y110)) hsub rfl (by kernel_rfl) (fun w hI => s_sub rfl rfl h110 ⟨rfl, Below.refl _ _⟩) ?_
 refine al_light 10 (iv (((y110 + y115) - y110) + 1)) hsub rfl (by kernel_rfl) (fun w hI => s_add rfl rfl h111 ⟨rfl, Below.refl _ _⟩) ?_
 refine al_light 11 (iv y123) hsub rfl (by kernel_rfl) (fun w hI => s_call 59 [iv (p0.f.tdiv 7), iv (((y110 + y115) - y110) + 1)] (by kernel_rfl) (L59 _ (p0.f.tdiv 7) (((y110 + y115) - y110) + 1) _ hy124) (fun v' w' h => h)) ?_
 refine al_light 12 (iv (y110 + y123)) hsub rfl (by kernel_rfl) (fun w hI => s_add rfl rfl h112 ⟨rfl, Below.refl _ _⟩) ?_
 refine alp 13 (iv (y110 + y123)) hsub rfl (by kernel_rfl) (fun _ => (by kernel_rfl)) ?_
 refine any_end (by kernel_rfl) (fun w hI => ?_)
 refine wp_seq (rgn (by kernel_rfl) (pu (iv (y97 + y119)) (by kernel_rfl) (pu (iv (y97 + y119)) (by kernel_rfl) (pu (.agg #[iv (y97 + y119), iv (y97 + y119)]) (by kernel_rfl) (pu (.pointer (some ⟨b102, 2, none⟩)) (by kernel_rfl) (seq_c (s_load1 hI 1 (iv (2 + y99)) Try.isAgg3 rfl rfl rfl ?_)))))))
 refine pu (.agg #[iv (y97 + y119), iv (y97 + y119), iv (2 + y99)]) (by kernel_rfl) (seq_c (s_allocI hI [iv 0, iv 0, iv 0] Try.zeroValue30 rfl ?_))
 intro b125 w hI
 refine seq_c (s_store hI 0 3 [iv (y97 + y119), iv (y97 + y119), iv (2 + y99)] Try.sizeOf30 rfl rfl rfl rfl rfl (Nat.le_of_ble_eq_true rfl) ?_)
 intro w hI
 refine seq_nil (wp_seq (rgn (by kernel_rfl) (seq_c (s_loadK hI 2 3 [iv y97, iv (y97 + y105), iv (2 + y99)] Try.isAgg30 Try.sizeOf30 rfl rfl rfl rfl ?_))))
 refine seq_c (s_loadK hI 3 2 [iv y110, iv (y110 + y115)] Try.isAgg28 Try.sizeOf28 rfl rfl rfl rfl ?_)
 refine bindE hF (fun y129 hy130 hF => ?_)
 refine seq_c (s_callv hI 26 [.agg #[iv y97, iv (y97 + y105), iv (2 + y99)], .agg #[iv y110, iv (y110 + y115)]] (.tuple #[.agg #[iv y129.1, iv y129.2.1], iv y129.2.2]) (by kernel_rfl) (L26 _ (⟨y97, y97 + y105, 2 + y99⟩ : Yl) (⟨y110, y110 + y115⟩ : Rg) _ hy130) ?_)
 intro w hI
 refine pu (.tuple #[.agg #[iv y129.1, iv y129.2.1], iv y129.2.2]) (by kernel_rfl) (pu (.agg #[iv y129.1, iv y129.2.1]) (by kernel_rfl) (pu (iv y129.2.2) (by kernel_rfl) (seq_c (s_allocI hI [iv 0, iv 0] Try.zeroValue28 rfl ?_))))
 intro b131 w hI
 refine seq_c (s_store hI 0 2 [iv y129.1, iv y129.2.1] Try.sizeOf28 rfl rfl rfl rfl rfl (Nat.le_of_ble_eq_true rfl) ?_)
 intro w hI
 refine pu (iv y129.2.2) (by kernel_rfl) (seq_nil (wp_seq (rgn (by kernel_rfl) (seq_c (s_loadK hI 3 3 [iv y97, iv (y97 + y105), iv (2 + y99)] Try.isAgg30 Try.sizeOf30 rfl rfl rfl rfl ?_)))))
 refine seq_c (s_loadK hI 4 2 [iv y110, iv (y110 + y115)] Try.isAgg28 Try.sizeOf28 rfl rfl rfl rfl ?_)
 refine bindE hF (fun y135 hy136 hF => ?_)
 refine seq_c (s_callv hI 30 [.agg #[iv y97, iv (y97 + y105), iv (2 + y99)], .agg #[iv y110, iv (y110 + y115)]] (.tuple #[.agg #[iv y135.1, iv y135.2.1], iv y135.2.2]) (by kernel_rfl) (L30 _ (⟨y97, y97 + y105, 2 + y99⟩ : Yl) (⟨y110, y110 + y115⟩ : Rg) _ hy136) ?_)
 intro w hI
 refine pu (.tuple #[.agg #[iv y135.1, iv y135.2.1], iv y135.2.2]) (by kernel_rfl) (pu (.agg #[iv y135.1, iv y135.2.1]) (by kernel_rfl) (pu (iv y135.2.2) (by kernel_rfl) (seq_c (s_allocI hI [iv 0, iv 0] Try.zeroValue28 rfl ?_))))
 intro b137 w hI
 refine seq_c (s_store hI 0 2 [iv y135.1, iv y135.2.1] Try.sizeOf28 rfl rfl rfl rfl rfl (Nat.le_of_ble_eq_true rfl) ?_)
 intro w hI
 refine pu (iv y135.2.2) (by kernel_rfl) (seq_nil (wp_seq (rgn (by kernel_rfl) (seq_c (s_loadK hI 2 3 [iv (y97 + y119), iv (y97 + y119), iv (2 + y99)] Try.isAgg30 Try.sizeOf30 rfl rfl rfl rfl ?_)))))
 refine pu (iv (y110 + y123)) (by kernel_rfl) (pu (iv (y110 + y123)) (by kernel_rfl) (pu (.agg #[iv (y110 + y123), iv (y110 + y123)]) (by kernel_rfl) (bindE hF (fun y141 hy142 hF => ?_))))
 refine seq_c (s_callv hI 26 [.agg #[iv (y97 + y119), iv (y97 + y119), iv (2 + y99)], .agg #[iv (y110 + y123), iv (y110 + y123)]] (.tuple #[.agg #[iv y141.1, iv y141.2.1], iv y141.2.2]) (by kernel_rfl) (L26 _ (⟨y97 + y119, y97 + y119, 2 + y99⟩ : Yl) (⟨y110 + y123, y110 + y123⟩ : Rg) _ hy142) ?_)
 intro w hI
 refine pu (.tuple #[.agg #[iv y141.1, iv y141.2.1], iv y141.2.2]) (by kernel_rfl) (pu (.agg #[iv y141.1, iv y141.2.1]) (by kernel_rfl) (pu (iv y141.2.2) (by kernel_rfl) (seq_c (s_allocI hI [iv 0, iv 0] Try.zeroValue28 rfl ?_))))
 intro b143 w hI
 refine seq_c (s_store hI 0 2 [iv y141.1, iv y141.2.1] Try.sizeOf28 rfl rfl rfl rfl rfl (Nat.le_of_ble_eq_true rfl) ?_)
 intro w hI
 refine pu (iv y141.2.2) (by kernel_rfl) (seq_nil (wp_seq (rgn (by kernel_rfl) (seq_c (s_loadK hI 3 3 [iv (y97 + y119), iv (y97 + y119), iv (2 + y99)] Try.isAgg30 Try.sizeOf30 rfl rfl rfl rfl ?_)))))
 refine pu (iv (y110 + y123)) (by kernel_rfl) (pu (iv (y110 + y123)) (by kernel_rfl) (pu (.agg #[iv (y110 + y123), iv (y110 + y123)]) (by kernel_rfl) (bindE hF (fun y147 hy148 hF => ?_))))
 refine seq_c (s_callv hI 30 [.agg #[iv (y97 + y119), iv (y97 + y119), iv (2 + y99)], .agg #[iv (y110 + y123), iv (y110 + y123)]] (.tuple #[.agg #[iv y147.1, iv y147.2.1], iv y147.2.2]) (by kernel_rfl) (L30 _ (⟨y97 + y119, y97 + y119, 2 + y99⟩ : Yl) (⟨y110 + y123, y110 + y123⟩ : Rg) _ hy148) ?_)
 intro w hI
 refine pu (.tuple #[.agg #[iv y147.1, iv y147.2.1], iv y147.2.2]) (by kernel_rfl) (pu (.agg #[iv y147.1, iv y147.2.1]) (by kernel_rfl) (pu (iv y147.2.2) (by kernel_rfl) (seq_c (s_allocI hI [iv 0, iv 0] Try.zeroValue28 rfl ?_))))
 intro b149 w hI
 refine seq_c (s_store hI 0 2 [iv y147.1, iv y147.2.1] Try.sizeOf28 rfl rfl rfl rfl rfl (Nat.le_of_ble_eq_true rfl) ?_)
 intro w hI
 refine pu (iv y147.2.2) (by kernel_rfl) (seq_nil (wp_seq (rgn (by kernel_rfl) (seq_c (s_loadK hI 6 3 [iv y97, iv (y97 + y105), iv (2 + y99)] Try.isAgg30 Try.sizeOf30 rfl rfl rfl rfl ?_)))))
 refine pu (.pointer (some ⟨b143, 0, none⟩)) (by kernel_rfl) (seq_c (s_load1 hI 1 (iv y141.1) Try.isAgg3 rfl rfl rfl ?_))
 refine bindE hF (fun y152 hy153 hF => ?_)
 refine seq_c (s_callv hI 28 [.agg #[iv y97, iv (y97 + y105), iv (2 + y99)], iv y141.1] (.tuple #[iv y152.1, iv y152.2]) (by kernel_rfl) (L28 _ (⟨y97, y97 + y105, 2 + y99⟩ : Yl) y141.1 _ hy153) ?_)
 intro w hI
 refine pu (.tuple #[iv y152.1, iv y152.2]) (by kernel_rfl) (pu (iv y152.1) (by kernel_rfl) (pu (iv y152.2) (by kernel_rfl) (pu (iv y152.1) (by kernel_rfl) (pu (iv y152.2) (by kernel_rfl) (seq_nil (wp_seq (rgn (by kernel_rfl) (seq_c (s_loadK hI 6 3 [iv y97, iv (y97 + y105), iv (2 + y99)] Try.isAgg30 Try.sizeOf30 rfl rfl rfl rfl ?_)))))))))
 refine seq_c (s_loadK hI 0 2 [iv y147.1, iv y147.2.1] Try.isAgg28 Try.sizeOf28 rfl rfl rfl rfl ?_)
 refine bindE hF (fun y157 hy158 hF => ?_)
 refine seq_c (s_callv hI 32 [.agg #[iv y97, iv (y97 + y105), iv (2 + y99)], .agg #[iv y147.1, iv y147.2.1]] (.tuple #[.agg #[iv y157.1, iv y157.2.1], iv y157.2.2]) (by kernel_rfl) (L32 _ (⟨y97, y97 + y105, 2 + y99⟩ : Yl) (⟨y147.1, y147.2.1⟩ : Rg) N _ hy158) ?_)
 intro w hI
 refine pu (.tuple #[.agg #[iv y157.1, iv y157.2.1], iv y157.2.2]) (by kernel_rfl) (pu (.agg #[iv y157.1, iv y157.2.1]) (by kernel_rfl) (pu (iv y157.2.2) (by kernel_rfl) (seq_c (s_allocI hI [iv 0, iv 0] Try.zeroValue28 rfl ?_))))
 intro b159 w hI
 refine seq_c (s_store hI 0 2 [iv y157.1, iv y157.2.1] Try.sizeOf28 rfl rfl rfl rfl rfl (Nat.le_of_ble_eq_true rfl) ?_)
 intro w hI
 refine pu (iv y157.2.2) (by kernel_rfl) (seq_nil (wp_seq (wp_seq (rgn (by kernel_rfl) (pu (iv y129.2.2) (by kernel_rfl) (ifE hF (fun h143 hF => ?_) (fun h143 hF => ?_)))))))
 ·
  refine seq_c (s_neq rfl rfl (fun h => absurd (a := y129.2.2 = 0) h143 h) (fun _ => ?_))
  refine pu (.bool false) (by kernel_rfl) (puo (iv y135.2.2) ⟨(by kernel_rfl), (by kernel_rfl)⟩ (ifE hF (fun h144 hF => ?_) (fun h144 hF => ?_)))
  ·
   refine seq_on (by kernel_rfl) (s_neq rfl rfl (fun h => absurd (a := y135.2.2 = 0) h144 h) (fun _ => ?_))
   refine pu (.bool false) (by kernel_rfl) (pu (.bool false) (by kernel_rfl) (puo (iv y141.2.2) ⟨(by kernel_rfl), (by kernel_rfl)⟩ (ifE hF (fun h145 hF => ?_) (fun h145 hF => ?_))))
   ·
    refine seq_on (by kernel_rfl) (s_neq rfl rfl (fun h => absurd (a := y141.2.2 = 0) h145 h) (fun _ => ?_))
    refine pu (.bool false) (by kernel_rfl) (pu (.bool false) (by kernel_rfl) (puo (iv y147.2.2) ⟨(by kernel_rfl), (by kernel_rfl)⟩ (ifE hF (fun h146 hF => ?_) (fun h146 hF => ?_))))
    ·
     refine seq_on (by kernel_rfl) (s_neq rfl rfl (fun h => absurd (a := y147.2.2 = 0) h146 h) (fun _ => ?_))
     refine pu (.bool false) (by kernel_rfl) (pu (.bool false) (by kernel_rfl) (puo (iv y152.2) ⟨(by kernel_rfl), (by kernel_rfl)⟩ (ifE hF (fun h147 hF => ?_) (fun h147 hF => ?_))))
     ·
      refine seq_on (by kernel_rfl) (s_neq rfl rfl (fun h => absurd (a := y152.2 = 0) h147 h) (fun _ => ?_))
      refine pu (.bool false) (by kernel_rfl) (pu (.bool false) (by kernel_rfl) (puo (iv y157.2.2) ⟨(by kernel_rfl), (by kernel_rfl)⟩ (ifE hF (fun h148 hF => ?_) (fun h148 hF => ?_))))
      ·
       refine seq_on (by kernel_rfl) (s_neq rfl rfl (fun h => absurd (a := y157.2.2 = 0) h148 h) (fun _ => ?_))
       refine pu (.bool false) (by kernel_rfl) (pu (.bool false) (by kernel_rfl) (puo (.pointer (some ⟨b143, 0, none⟩)) ⟨(by kernel_rfl), (by kernel_rfl)⟩ (seq_on (by kernel_rfl) (s_load1 hI 2 (iv y141.1) Try.isAgg3 rfl rfl rfl ?_))))
       refine puo (.pointer (some ⟨b143, 1, none⟩)) ⟨(by kernel_rfl), (by kernel_rfl)⟩ (seq_on (by kernel_rfl) (s_load1 hI 2 (iv y141.2.1) Try.isAgg3 rfl rfl rfl ?_))
       refine ifE hF (fun h149 hF => ?_) (fun h149 hF => ?_)
       ·
        refine seq_on (by kernel_rfl) (s_neq rfl rfl (fun h => absurd (a := y141.1 = y141.2.1) h149 h) (fun _ => ?_))
        refine pu (.bool false) (by kernel_rfl) (pu (.bool false) (by kernel_rfl) (puo (.pointer (some ⟨b149, 0, none⟩)) ⟨(by kernel_rfl), (by kernel_rfl)⟩ (seq_on (by kernel_rfl) (s_load1 hI 1 (iv y147.1) Try.isAgg3 rfl rfl rfl ?_))))
        refine puo (.pointer (some ⟨b149, 1, none⟩)) ⟨(by kernel_rfl), (by kernel_rfl)⟩ (seq_on (by kernel_rfl) (s_load1 hI 1 (iv y147.2.1) Try.isAgg3 rfl rfl rfl ?_))
        refine ifE hF (fun h150 hF => ?_) (fun h150 hF => ?_)
        ·
         refine seq_on (by kernel_rfl) (s_neq rfl rfl (fun h => absurd (a := y147.1 = y147.2.1) h150 h) (fun _ => ?_))
         refine pu (.bool false) (by kernel_rfl) (pu (.bool false) (by kernel_rfl) (puo (iv y152.1) ⟨(by kernel_rfl), (by kernel_rfl)⟩ (puo (.pointer (some ⟨b149, 0, none⟩)) ⟨(by kernel_rfl), (by kernel_rfl)⟩ (seq_on (by kernel_rfl) (s_load1 hI 1 (iv y147.1) Try.isAgg3 rfl rfl rfl ?_)))))
         refine ckE hF (fun h151 hF => ?_)
         refine seq_on (by kernel_rfl) (s_add rfl rfl h151 ?_)
         refine puo (.pointer (some ⟨b143, 0, none⟩)) ⟨(by kernel_rfl), (by kernel_rfl)⟩ (seq_on (by kernel_rfl) (s_load1 hI 2 (iv y141.1) Try.isAgg3 rfl rfl rfl ?_))
         refine ifE hF (fun h152 hF => ?_) (fun h152 hF => ?_)
         ·
          refine seq_on (by kernel_rfl) (s_neq rfl rfl (fun h => absurd (a := (y152.1 + y147.1) = y141.1) h152 h) (fun _ => ?_))
          refine pu (.bool false) (by kernel_rfl) (seq_nil (wp_condF rfl (wp_skip (wp_seq (wp_seq (rgn (by kernel_rfl) (pu (.pointer (some ⟨b143, 0, none⟩)) (by kernel_rfl) (seq_c (s_load1 hI 2 (iv y141.1) Try.isAgg3 rfl rfl rfl ?_)))))))))
          refine pu (.pointer (some ⟨b131, 0, none⟩)) (by kernel_rfl) (seq_c (s_load1 hI 4 (iv y129.1) Try.isAgg3 rfl rfl rfl ?_))
          refine ifE hF (fun h171 hF => ?_) (fun h171 hF => ?_)
          ·
           refine seq_c (s_lss rfl rfl (fun _ => ?_) (fun h => absurd (a := y141.1 < y129.1) h171 h))
           refine pu (.bool true) (by kernel_rfl) (of_ (by kernel_rfl) (of_ (by kernel_rfl) (of_ (by kernel_rfl) (of_ (by kernel_rfl) (of_ (by kernel_rfl) (pu (.bool true) (by kernel_rfl) (pu (.bool true) (by kernel_rfl) (of_ (by kernel_rfl) (of_ (by kernel_rfl) ?_)))))))))
           refine of_ (by kernel_rfl) (of_ (by kernel_rfl) (of_ (by kernel_rfl) (pu (.bool true) (by kernel_rfl) (pu (.bool true) (by kernel_rfl) (of_ (by kernel_rfl) (of_ (by kernel_rfl) (of_ (by kernel_rfl) (of_ (by kernel_rfl) (of_ (by kernel_rfl) ?_)))))))))
           refine pu (.bool true) (by kernel_rfl) (pu (.bool true) (by kernel_rfl) (of_ (by kernel_rfl) (of_ (by kernel_rfl) (of_ (by kernel_rfl) (of_ (by kernel_rfl) (pu (.bool true) (by kernel_rfl) (pu (.bool true) (by kernel_rfl) (of_ (by kernel_rfl) (of_ (by kernel_rfl) ?_)))))))))
           refine of_ (by kernel_rfl) (of_ (by kernel_rfl) (pu (.bool true) (by kernel_rfl) (seq_nil (wp_condT rfl (wp_seq (rgn (by kernel_rfl) (pu (.bool false) (by kernel_rfl) (seq_nil (wp_ret ?_)))))))))
           replace hF := Option.some.inj hF; subst hF
           exact ⟨.bool false, Ret.r1 rfl rfl, ⟨rfl, hI.below⟩⟩
          ·
           refine seq_c (s_lss rfl rfl (fun h => absurd (a := y141.1 < y129.1) h h171) (fun _ => ?_))
           refine pu (.bool false) (by kernel_rfl) (puo (.pointer (some ⟨b143, 0, none⟩)) ⟨(by kernel_rfl), (by kernel_rfl)⟩ (seq_on (by kernel_rfl) (s_load1 hI 2 (iv y141.1) Try.isAgg3 rfl rfl rfl ?_)))
           refine puo (.pointer (some ⟨b131, 1, none⟩)) ⟨(by kernel_rfl), (by kernel_rfl)⟩ (seq_on (by kernel_rfl) (s_load1 hI 4 (iv y129.2.1) Try.isAgg3 rfl rfl rfl ?_))
           refine ifE hF (fun h172 hF => ?_) (fun h172 hF => ?_)
           ·
            refine seq_on (by kernel_rfl) (s_gtr rfl rfl (fun _ => ?_) (fun h => absurd (a := y129.2.1 < y141.1) h172 h))
            refine pu (.bool true) (by kernel_rfl) (pu (.bool true) (by kernel_rfl) (of_ (by kernel_rfl) (of_ (by kernel_rfl) (of_ (by kernel_rfl) (of_ (by kernel_rfl) (of_ (by kernel_rfl) (pu (.bool true) (by kernel_rfl) (pu (.bool true) (by kernel_rfl) (of_ (by kernel_rfl) ?_)))))))))
            refine of_ (by kernel_rfl) (of_ (by kernel_rfl) (of_ (by kernel_rfl) (of_ (by kernel_rfl) (pu (.bool true) (by kernel_rfl) (pu (.bool true) (by kernel_rfl) (of_ (by kernel_rfl) (of_ (by kernel_rfl) (of_ (by kernel_rfl) (of_ (by kernel_rfl) ?_)))))))))
            refine pu (.bool true) (by kernel_rfl) (pu (.bool true) (by kernel_rfl) (of_ (by kernel_rfl) (of_ (by kernel_rfl) (of_ (by kernel_rfl) (of_ (by kernel_rfl) (pu (.bool true) (by kernel_rfl) (seq_nil (wp_condT rfl (wp_seq ?_)))))))))
            refine rgn (by kernel_rfl) (pu (.bool false) (by kernel_rfl) (seq_nil (wp_ret ?_)))
            replace hF := Option.some.inj hF; subst hF
            exact ⟨.bool false, Ret.r1 rfl rfl, ⟨rfl, hI.below⟩⟩
           ·
            refine seq_on (by kernel_rfl) (s_gtr rfl rfl (fun h => absurd (a := y129.2.1 < y141.1) h h172) (fun _ => ?_))
            refine pu (.bool false) (by kernel_rfl) (pu (.bool false) (by kernel_rfl) (puo (.pointer (some ⟨b149, 0, none⟩)) ⟨(by kernel_rfl), (by kernel_rfl)⟩ (seq_on (by kernel_rfl) (s_load1 hI 1 (iv y147.1) Try.isAgg3 rfl rfl rfl ?_))))
            refine puo (.pointer (some ⟨b137, 0, none⟩)) ⟨(by kernel_rfl), (by kernel_rfl)⟩ (seq_on (by kernel_rfl) (s_load1 hI 3 (iv y135.1) Try.isAgg3 rfl rfl rfl ?_))
            refine ifE hF (fun h173 hF => ?_) (fun h173 hF => ?_)
            ·
             refine seq_on (by kernel_rfl) (s_lss rfl rfl (fun _ => ?_) (fun h => absurd (a := y147.1 < y135.1) h173 h))
             refine pu (.bool true) (by kernel_rfl) (pu (.bool true) (by kernel_rfl) (of_ (by kernel_rfl) (of_ (by kernel_rfl) (of_ (by kernel_rfl) (of_ (by kernel_rfl) (of_ (by kernel_rfl) (pu (.bool true) (by kernel_rfl) (pu (.bool true) (by kernel_rfl) (of_ (by kernel_rfl) ?_)))))))))
             refine of_ (by kernel_rfl) (of_ (by kernel_rfl) (of_ (by kernel_rfl) (pu (.bool true) (by kernel_rfl) (pu (.bool true) (by kernel_rfl) (of_ (by kernel_rfl) (of_ (by kernel_rfl) (of_ (by kernel_rfl) (of_ (by kernel_rfl) (pu (.bool true) (by kernel_rfl) ?_)))))))))
             refine seq_nil (wp_condT rfl (wp_seq (rgn (by kernel_rfl) (pu (.bool false) (by kernel_rfl) (seq_nil (wp_ret ?_))))))
             replace hF := Option.some.inj hF; subst hF
             exact ⟨.bool false, Ret.r1 rfl rfl, ⟨rfl, hI.below⟩⟩
            ·
             refine seq_on (by kernel_rfl) (s_lss rfl rfl (fun h => absurd (a := y147.1 < y135.1) h h173) (fun _ => ?_))
             refine pu (.bool false) (by kernel_rfl) (pu (.bool false) (by kernel_rfl) (puo (.pointer (some ⟨b149, 0, none⟩)) ⟨(by kernel_rfl), (by kernel_rfl)⟩ (seq_on (by kernel_rfl) (s_load1 hI 1 (iv y147.1) Try.isAgg3 rfl rfl rfl ?_))))
             refine puo (.pointer (some ⟨b137, 1, none⟩)) ⟨(by kernel_rfl), (by kernel_rfl)⟩ (seq_on (by kernel_rfl) (s_load1 hI 3 (iv y135.2.1) Try.isAgg3 rfl rfl rfl ?_))
             refine ifE hF (fun h174 hF => ?_) (fun h174 hF => ?_)
             ·
              refine seq_on (by kernel_rfl) (s_gtr rfl rfl (fun _ => ?_) (fun h => absurd (a := y135.2.1 < y147.1) h174 h))
              refine pu (.bool true) (by kernel_rfl) (pu (.bool true) (by kernel_rfl) (of_ (by kernel_rfl) (of_ (by kernel_rfl) (of_ (by kernel_rfl) (of_ (by kernel_rfl) (pu (.bool true) (by kernel_rfl) (pu (.bool true) (by kernel_rfl) (of_ (by kernel_rfl) (of_ (by kernel_rfl) ?_)))))))))
              refine of_ (by kernel_rfl) (of_ (by kernel_rfl) (pu (.bool true) (by kernel_rfl) (seq_nil (wp_condT rfl (wp_seq (rgn (by kernel_rfl) (pu (.bool false) (by kernel_rfl) (seq_nil (wp_ret ?_)))))))))
              replace hF := Option.some.inj hF; subst hF
              exact ⟨.bool false, Ret.r1 rfl rfl, ⟨rfl, hI.below⟩⟩
             ·
              refine seq_on (by kernel_rfl) (s_gtr rfl rfl (fun h => absurd (a := y135.2.1 < y147.1) h h174) (fun _ => ?_))
              refine pu (.bool false) (by kernel_rfl) (pu (.bool false) (by kernel_rfl) (puo (iv (y110 + y123)) ⟨(by kernel_rfl), (by kernel_rfl)⟩ (puo (.pointer (some ⟨b159, 0, none⟩)) ⟨(by kernel_rfl), (by kernel_rfl)⟩ (seq_on (by kernel_rfl) (s_load1 hI 0 (iv y157.1) Try.isAgg3 rfl rfl rfl ?_)))))
              refine ifE hF (fun h175 hF => ?_) (fun h175 hF => ?_)
              ·
               refine seq_on (by kernel_rfl) (s_lss rfl rfl (fun _ => ?_) (fun h => absurd (a := (y110 + y123) < y157.1) h175 h))
               refine pu (.bool true) (by kernel_rfl) (pu (.bool true) (by kernel_rfl) (of_ (by kernel_rfl) (of_ (by kernel_rfl) (of_ (by kernel_rfl) (of_ (by kernel_rfl) (pu (.bool true) (by kernel_rfl) (seq_nil (wp_condT rfl (wp_seq ?_)))))))))
               refine rgn (by kernel_rfl) (pu (.bool false) (by kernel_rfl) (seq_nil (wp_ret ?_)))
               replace hF := Option.some.inj hF; subst hF
               exact ⟨.bool false, Ret.r1 rfl rfl, ⟨rfl, hI.below⟩⟩
              ·
               refine seq_on (by kernel_rfl) (s_lss rfl rfl (fun h => absurd (a := (y110 + y123) < y157.1) h h175) (fun _ => ?_))
               refine pu (.bool false) (by kernel_rfl) (pu (.bool false) (by kernel_rfl) (puo (iv (y110 + y123)) ⟨(by kernel_rfl), (by kernel_rfl)⟩ (puo (.pointer (some ⟨b159, 1, none⟩)) ⟨(by kernel_rfl), (by kernel_rfl)⟩ (seq_on (by kernel_rfl) (s_load1 hI 0 (iv y157.2.1) Try.isAgg3 rfl rfl rfl ?_)))))
               refine ifE hF (fun h176 hF => ?_) (fun h176 hF => ?_)
               ·
                refine seq_on (by kernel_rfl) (s_gtr rfl rfl (fun _ => ?_) (fun h => absurd (a := y157.2.1 < (y110 + y123)) h176 h))
                refine pu (.bool true) (by kernel_rfl) (seq_nil (wp_condT rfl (wp_seq (rgn (by kernel_rfl) (pu (.bool false) (by kernel_rfl) (seq_nil (wp_ret ?_)))))))
                replace hF := Option.some.inj hF; subst hF
                exact ⟨.bool false, Ret.r1 rfl rfl, ⟨rfl, hI.below⟩⟩
               ·
                refine seq_on (by kernel_rfl) (s_gtr rfl rfl (fun h => absurd (a := y157.2.1 < (y110 + y123)) h h176) (fun _ => ?_))
                refine pu (.bool false) (by kernel_rfl) (seq_nil (wp_condF rfl (wp_skip (wp_seq (rgn (by kernel_rfl) (pu (.pointer (some ⟨b102, 0, none⟩)) (by kernel_rfl) (pu (.pointer (some ⟨b102, 0, none⟩)) (by kernel_rfl) (seq_c (s_load1 hI 7 (iv y97) Try.isAgg3 rfl rfl rfl ?_)))))))))
                refine pu (.pointer (some ⟨b102, 0, none⟩)) (by kernel_rfl) (pu (.pointer (some ⟨b102, 0, none⟩)) (by kernel_rfl) (seq_c (s_load1 hI 7 (iv y97) Try.isAgg3 rfl rfl rfl ?_)))
                refine pu (.agg #[iv y97, iv y97]) (by kernel_rfl) (pu (.pointer (some ⟨b102, 2, none⟩)) (by kernel_rfl) (seq_c (s_load1 hI 7 (iv (2 + y99)) Try.isAgg3 rfl rfl rfl ?_)))
                refine pu (.agg #[iv y97, iv y97, iv (2 + y99)]) (by kernel_rfl) (seq_c (s_allocI hI [iv 0, iv 0, iv 0] Try.zeroValue30 rfl ?_))
                intro b160 w hI
                refine seq_c (s_store hI 0 3 [iv y97, iv y97, iv (2 + y99)] Try.sizeOf30 rfl rfl rfl rfl rfl (Nat.le_of_ble_eq_true rfl) ?_)
                intro w hI
                refine seq_nil (wp_seq (rgn (by kernel_rfl) (pu (.pointer (some ⟨b102, 0, none⟩)) (by kernel_rfl) (pu (.pointer (some ⟨b102, 1, none⟩)) (by kernel_rfl) (seq_c (s_load1 hI 8 (iv (y97 + y105)) Try.isAgg3 rfl rfl rfl ?_))))))
                refine pu (.pointer (some ⟨b102, 0, none⟩)) (by kernel_rfl) (pu (.pointer (some ⟨b102, 1, none⟩)) (by kernel_rfl) (seq_c (s_load1 hI 8 (iv (y97 + y105)) Try.isAgg3 rfl rfl rfl ?_)))
                refine pu (.agg #[iv (y97 + y105), iv (y97 + y105)]) (by kernel_rfl) (pu (.pointer (some ⟨b102, 2, none⟩)) (by kernel_rfl) (seq_c (s_load1 hI 8 (iv (2 + y99)) Try.isAgg3 rfl rfl rfl ?_)))
                refine pu (.agg #[iv (y97 + y105), iv (y97 + y105), iv (2 + y99)]) (by kernel_rfl) (seq_c (s_allocI hI [iv 0, iv 0, iv 0] Try.zeroValue30 rfl ?_))
                intro b161 w hI
                refine seq_c (s_store hI 0 3 [iv (y97 + y105), iv (y97 + y105), iv (2 + y99)] Try.sizeOf30 rfl rfl rfl rfl rfl (Nat.le_of_ble_eq_true rfl) ?_)
                intro w hI
                refine seq_nil (wp_seq (rgn (by kernel_rfl) (seq_c (s_loadK hI 1 3 [iv y97, iv y97, iv (2 + y99)] Try.isAgg30 Try.sizeOf30 rfl rfl rfl rfl ?_))))
                refine pu (.pointer (some ⟨b112, 0, none⟩)) (by kernel_rfl) (seq_c (s_load1 hI 10 (iv y110) Try.isAgg3 rfl rfl rfl ?_))
                refine pu (.pointer (some ⟨b112, 0, none⟩)) (by kernel_rfl) (seq_c (s_load1 hI 10 (iv y110) Try.isAgg3 rfl rfl rfl ?_))
                refine pu (.agg #[iv y110, iv y110]) (by kernel_rfl) (bindE hF (fun y165 hy166 hF => ?_))
                refine seq_c (s_callv hI 30 [.agg #[iv y97, iv y97, iv (2 + y99)], .agg #[iv y110, iv y110]] (.tuple #[.agg #[iv y165.1, iv y165.2.1], iv y165.2.2]) (by kernel_rfl) (L30 _ (⟨y97, y97, 2 + y99⟩ : Yl) (⟨y110, y110⟩ : Rg) _ hy166) ?_)
                intro w hI
                refine pu (.tuple #[.agg #[iv y165.1, iv y165.2.1], iv y165.2.2]) (by kernel_rfl) (pu (.agg #[iv y165.1, iv y165.2.1]) (by kernel_rfl) (pu (iv y165.2.2) (by kernel_rfl) (seq_c (s_allocI hI [iv 0, iv 0] Try.zeroValue28 rfl ?_))))
                intro b167 w hI
                refine seq_c (s_store hI 0 2 [iv y165.1, iv y165.2.1] Try.sizeOf28 rfl rfl rfl rfl rfl (Nat.le_of_ble_eq_true rfl) ?_)
                intro w hI
                refine pu (iv y165.2.2) (by kernel_rfl) (seq_nil (wp_seq (rgn (by kernel_rfl) (seq_c (s_loadK hI 1 3 [iv (y97 + y105), iv (y97 + y105), iv (2 + y99)] Try.isAgg30 Try.sizeOf30 rfl rfl rfl rfl ?_)))))
                refine pu (.pointer (some ⟨b112, 1, none⟩)) (by kernel_rfl) (seq_c (s_load1 hI 11 (iv (y110 + y115)) Try.isAgg3 rfl rfl rfl ?_))
                refine pu (.pointer (some ⟨b112, 1, none⟩)) (by kernel_rfl) (seq_c (s_load1 hI 11 (iv (y110 + y115)) Try.isAgg3 rfl rfl rfl ?_))
                refine pu (.agg #[iv (y110 + y115), iv (y110 + y115)]) (by kernel_rfl) (bindE hF (fun y171 hy172 hF => ?_))
                refine seq_c (s_callv hI 30 [.agg #[iv (y97 + y105), iv (y97 + y105), iv (2 + y99)], .agg #[iv (y110 + y115), iv (y110 + y115)]] (.tuple #[.agg #[iv y171.1, iv y171.2.1], iv y171.2.2]) (by kernel_rfl) (L30 _ (⟨y97 + y105, y97 + y105, 2 + y99⟩ : Yl) (⟨y110 + y115, y110 + y115⟩ : Rg) _ hy172) ?_)
                intro w hI
                refine pu (.tuple #[.agg #[iv y171.1, iv y171.2.1], iv y171.2.2]) (by kernel_rfl) (pu (.agg #[iv y171.1, iv y171.2.1]) (by kernel_rfl) (pu (iv y171.2.2) (by kernel_rfl) (seq_c (s_allocI hI [iv 0, iv 0] Try.zeroValue28 rfl ?_))))
                intro b173 w hI
                refine seq_c (s_store hI 0 2 [iv y171.1, iv y171.2.1] Try.sizeOf28 rfl rfl rfl rfl rfl (Nat.le_of_ble_eq_true rfl) ?_)
                intro w hI
                refine pu (iv y171.2.2) (by kernel_rfl) (seq_nil (wp_seq (rgn (by kernel_rfl) (pu (iv y165.2.2) (by kernel_rfl) (ifE hF (fun h181 hF => ?_) (fun h181 hF => ?_))))))
                ·
                 refine seq_c (s_eql rfl rfl (fun _ => ?_) (fun h => absurd (a := y165.2.2 = 0) h181 h))
                 refine pu (.bool true) (by kernel_rfl) (puo (iv y171.2.2) ⟨(by kernel_rfl), (by kernel_rfl)⟩ (ifE hF (fun h182 hF => ?_) (fun h182 hF => ?_)))
                 ·
                  refine seq_on (by kernel_rfl) (s_eql rfl rfl (fun _ => ?_) (fun h => absurd (a := y171.2.2 = 0) h182 h))
                  refine pu (.bool true) (by kernel_rfl) (pu (.bool true) (by kernel_rfl) (puo (.pointer (some ⟨b167, 0, none⟩)) ⟨(by kernel_rfl), (by kernel_rfl)⟩ (seq_on (by kernel_rfl) (s_load1 hI 1 (iv y165.1) Try.isAgg3 rfl rfl rfl ?_))))
                  refine puo (.pointer (some ⟨b137, 0, none⟩)) ⟨(by kernel_rfl), (by kernel_rfl)⟩ (seq_on (by kernel_rfl) (s_load1 hI 7 (iv y135.1) Try.isAgg3 rfl rfl rfl ?_))
                  refine ifE hF (fun h183 hF => ?_) (fun h183 hF => ?_)
                  ·
                   refine seq_on (by kernel_rfl) (s_eql rfl rfl (fun _ => ?_) (fun h => absurd (a := y165.1 = y135.1) h183 h))
                   refine pu (.bool true) (by kernel_rfl) (pu (.bool true) (by kernel_rfl) (puo (.pointer (some ⟨b173, 1, none⟩)) ⟨(by kernel_rfl), (by kernel_rfl)⟩ (seq_on (by kernel_rfl) (s_load1 hI 0 (iv y171.2.1) Try.isAgg3 rfl rfl rfl ?_))))
                   refine puo (.pointer (some ⟨b137, 1, none⟩)) ⟨(by kernel_rfl), (by kernel_rfl)⟩ (seq_on (by kernel_rfl) (s_load1 hI 7 (iv y135.2.1) Try.isAgg3 rfl rfl rfl ?_))
                   refine ifE hF (fun h184 hF => ?_) (fun h184 hF => ?_)
                   ·
                    refine seq_on (by kernel_rfl) (s_eql rfl rfl (fun _ => ?_) (fun h => absurd (a := y171.2.1 = y135.2.1) h184 h))
                    refine pu (.bool true) (by kernel_rfl) (pu (.bool true) (by kernel_rfl) (bindE hF (fun y177 hy178 hF => ?_)))
                    refine seq_on (by kernel_rfl) (s_callv hI 25 [] (.bool y177) (by kernel_rfl) (L25 _ N _ hy178) ?_)
                    intro w hI
                    refine pu (.bool y177) (by kernel_rfl) (pu (.bool y177) (by kernel_rfl) (seq_nil (wp_ret ?_)))
                    replace hF := Option.some.inj hF; subst hF
                    exact ⟨.bool y177, Ret.r1 rfl rfl, ⟨rfl, hI.below⟩⟩
                   ·
                    refine seq_on (by kernel_rfl) (s_eql rfl rfl (fun h => absurd (a := y171.2.1 = y135.2.1) h h184) (fun _ => ?_))
                    refine pu (.bool false) (by kernel_rfl) (pu (.bool false) (by kernel_rfl) (of_ (by kernel_rfl) (pu (.bool false) (by kernel_rfl) (pu (.bool false) (by kernel_rfl) (seq_nil (wp_ret ?_))))))
                    replace hF := Option.some.inj hF; subst hF
                    exact ⟨.bool false, Ret.r1 rfl rfl, ⟨rfl, hI.below⟩⟩
                  ·
                   refine seq_on (by kernel_rfl) (s_eql rfl rfl (fun h => absurd (a := y165.1 = y135.1) h h183) (fun _ => ?_))
                   refine pu (.bool false) (by kernel_rfl) (pu (.bool false) (by kernel_rfl) (of_ (by kernel_rfl) (of_ (by kernel_rfl) (of_ (by kernel_rfl) (of_ (by kernel_rfl) (of_ (by kernel_rfl) (pu (.bool false) (by kernel_rfl) (pu (.bool false) (by kernel_rfl) (of_ (by kernel_rfl) ?_)))))))))
                   refine pu (.bool false) (by kernel_rfl) (pu (.bool false) (by kernel_rfl) (seq_nil (wp_ret ?_)))
                   replace hF := Option.some.inj hF; subst hF
                   exact ⟨.bool false, Ret.r1 rfl rfl, ⟨rfl, hI.below⟩⟩
                 ·
                  refine seq_on (by kernel_rfl) (s_eql rfl rfl (fun h => absurd (a := y171.2.2 = 0) h h182) (fun _ => ?_))
                  refine pu (.bool false) (by kernel_rfl) (pu (.bool false) (by kernel_rfl) (of_ (by kernel_rfl) (of_ (by kernel_rfl) (of_ (by kernel_rfl) (of_ (by kernel_rfl) (of_ (by kernel_rfl) (pu (.bool false) (by kernel_rfl) (pu (.bool false) (by kernel_rfl) (of_ (by kernel_rfl) ?_)))))))))
                  refine of_ (by kernel_rfl) (of_ (by kernel_rfl) (of_ (by kernel_rfl) (of_ (by kernel_rfl) (pu (.bool false) (by kernel_rfl) (pu (.bool false) (by kernel_rfl) (of_ (by kernel_rfl) (pu (.bool false) (by kernel_rfl) (pu (.bool false) (by kernel_rfl) (seq_nil ?_)))))))))
                  refine wp_ret ?_
                  replace hF := Option.some.inj hF; subst hF
                  exact ⟨.bool false, Ret.r1 rfl rfl, ⟨rfl, hI.below⟩⟩
                ·
                 refine seq_c (s_eql rfl rfl (fun h => absurd (a := y165.2.2 = 0) h h181) (fun _ => ?_))
                 refine pu (.bool false) (by kernel_rfl) (of_ (by kernel_rfl) (of_ (by kernel_rfl) (pu (.bool false) (by kernel_rfl) (pu (.bool false) (by kernel_rfl) (of_ (by kernel_rfl) (of_ (by kernel_rfl) (of_ (by kernel_rfl) (of_ (by kernel_rfl) (of_ (by kernel_rfl) ?_)))))))))
                 refine pu (.bool false) (by kernel_rfl) (pu (.bool false) (by kernel_rfl) (of_ (by kernel_rfl) (of_ (by kernel_rfl) (of_ (by kernel_rfl) (of_ (by kernel_rfl) (of_ (by kernel_rfl) (pu (.bool false) (by kernel_rfl) (pu (.bool false) (by kernel_rfl) (of_ (by kernel_rfl) ?_)))))))))
                 refine pu (.bool false) (by kernel_rfl) (pu (.bool false) (by kernel_rfl) (seq_nil (wp_ret ?_)))
                 replace hF := Option.some.inj hF; subst hF
                 exact ⟨.bool false, Ret.r1 rfl rfl, ⟨rfl, hI.below⟩⟩
         ·
          refine seq_on (by kernel_rfl) (s_neq rfl rfl (fun _ => ?_) (fun h => absurd (a := (y152.1 + y147.1) = y141.1) h h152))
          refine pu (.bool true) (by kernel_rfl) (seq_nil (wp_condT rfl (wp_seq (rgn (by kernel_rfl) (pu (.bool false) (by kernel_rfl) (seq_nil (wp_ret ?_)))))))
          replace hF := Option.some.inj hF; subst hF
          exact ⟨.bool false, Ret.r1 rfl rfl, ⟨rfl, hI.below⟩⟩
        ·
         refine seq_on (by kernel_rfl) (s_neq rfl rfl (fun _ => ?_) (fun h => absurd (a := y147.1 = y147.2.1) h h150))
         refine pu (.bool true) (by kernel_rfl) (pu (.bool true) (by kernel_rfl) (of_ (by kernel_rfl) (of_ (by kernel_rfl) (of_ (by kernel_rfl) (of_ (by kernel_rfl) (of_ (by kernel_rfl) (of_ (by kernel_rfl) (of_ (by kernel_rfl) (pu (.bool true) (by kernel_rfl) ?_)))))))))
         refine seq_nil (wp_condT rfl (wp_seq (rgn (by kernel_rfl) (pu (.bool false) (by kernel_rfl) (seq_nil (wp_ret ?_))))))
         replace hF := Option.some.inj hF; subst hF
         exact ⟨.bool false, Ret.r1 rfl rfl, ⟨rfl, hI.below⟩⟩
       ·
        refine seq_on (by kernel_rfl) (s_neq rfl rfl (fun _ => ?_) (fun h => absurd (a := y141.1 = y141.2.1) h h149))
        refine pu (.bool true) (by kernel_rfl) (pu (.bool true) (by kernel_rfl) (of_ (by kernel_rfl) (of_ (by kernel_rfl) (of_ (by kernel_rfl) (of_ (by kernel_rfl) (of_ (by kernel_rfl) (pu (.bool true) (by kernel_rfl) (pu (.bool true) (by kernel_rfl) (of_ (by kernel_rfl) ?_)))))))))
        refine of_ (by kernel_rfl) (of_ (by kernel_rfl) (of_ (by kernel_rfl) (of_ (by kernel_rfl) (of_ (by kernel_rfl) (of_ (by kernel_rfl) (pu (.bool true) (by kernel_rfl) (seq_nil (wp_condT rfl (wp_seq ?_)))))))))
        refine rgn (by kernel_rfl) (pu (.bool false) (by kernel_rfl) (seq_nil (wp_ret ?_)))
        replace hF := Option.some.inj hF; subst hF
        exact ⟨.bool false, Ret.r1 rfl rfl, ⟨rfl, hI.below⟩⟩
      ·
       refine seq_on (by kernel_rfl) (s_neq rfl rfl (fun _ => ?_) (fun h => absurd (a := y157.2.2 = 0) h h148))
       refine pu (.bool true) (by kernel_rfl) (pu (.bool true) (by kernel_rfl) (of_ (by kernel_rfl) (of_ (by kernel_rfl) (of_ (by kernel_rfl) (of_ (by kernel_rfl) (of_ (by kernel_rfl) (pu (.bool true) (by kernel_rfl) (pu (.bool true) (by kernel_rfl) (of_ (by kernel_rfl) ?_)))))))))
       refine of_ (by kernel_rfl) (of_ (by kernel_rfl) (of_ (by kernel_rfl) (of_ (by kernel_rfl) (pu (.bool true) (by kernel_rfl) (pu (.bool true) (by kernel_rfl) (of_ (by kernel_rfl) (of_ (by kernel_rfl) (of_ (by kernel_rfl) (of_ (by kernel_rfl) ?_)))))))))
       refine of_ (by kernel_rfl) (of_ (by kernel_rfl) (of_ (by kernel_rfl) (pu (.bool true) (by kernel_rfl) (seq_nil (wp_condT rfl (wp_seq (rgn (by kernel_rfl) (pu (.bool false) (by kernel_rfl) (seq_nil ?_)))))))))
       refine wp_ret ?_
       replace hF := Option.some.inj hF; subst hF
       exact ⟨.bool false, Ret.r1 rfl rfl, ⟨rfl, hI.below⟩⟩
     ·
      refine seq_on (by kernel_rfl) (s_neq rfl rfl (fun _ => ?_) (fun h => absurd (a := y152.2 = 0) h h147))
      refine pu (.bool true) (by kernel_rfl) (pu (.bool true) (by kernel_rfl) (of_ (by kernel_rfl) (of_ (by kernel_rfl) (pu (.bool true) (by kernel_rfl) (pu (.bool true) (by kernel_rfl) (of_ (by kernel_rfl) (of_ (by kernel_rfl) (of_ (by kernel_rfl) (of_ (by kernel_rfl) ?_)))))))))
      refine of_ (by kernel_rfl) (pu (.bool true) (by kernel_rfl) (pu (.bool true) (by kernel_rfl) (of_ (by kernel_rfl) (of_ (by kernel_rfl) (of_ (by kernel_rfl) (of_ (by kernel_rfl) (of_ (by kernel_rfl) (pu (.bool true) (by kernel_rfl) (pu (.bool true) (by kernel_rfl) ?_)))))))))
      refine of_ (by kernel_rfl) (of_ (by kernel_rfl) (of_ (by kernel_rfl) (of_ (by kernel_rfl) (of_ (by kernel_rfl) (of_ (by kernel_rfl) (of_ (by kernel_rfl) (pu (.bool true) (by kernel_rfl) (seq_nil (wp_condT rfl ?_)))))))))
      refine wp_seq (rgn (by kernel_rfl) (pu (.bool false) (by kernel_rfl) (seq_nil (wp_ret ?_))))
      replace hF := Option.some.inj hF; subst hF
      exact ⟨.bool false, Ret.r1 rfl rfl, ⟨rfl, hI.below⟩⟩
    ·
     refine seq_on (by kernel_rfl) (s_neq rfl rfl (fun _ => ?_) (fun h => absurd (a := y147.2.2 = 0) h h146))
     refine pu (.bool true) (by kernel_rfl) (pu (.bool true) (by kernel_rfl) (of_ (by kernel_rfl) (of_ (by kernel_rfl) (pu (.bool true) (by kernel_rfl) (pu (.bool true) (by kernel_rfl) (of_ (by kernel_rfl) (of_ (by kernel_rfl) (pu (.bool true) (by kernel_rfl) (pu (.bool true) (by kernel_rfl) ?_)))))))))
     refine of_ (by kernel_rfl) (of_ (by kernel_rfl) (of_ (by kernel_rfl) (of_ (by kernel_rfl) (of_ (by kernel_rfl) (pu (.bool true) (by kernel_rfl) (pu (.bool true) (by kernel_rfl) (of_ (by kernel_rfl) (of_ (by kernel_rfl) (of_ (by kernel_rfl) ?_)))))))))
     refine of_ (by kernel_rfl) (of_ (by kernel_rfl) (pu (.bool true) (by kernel_rfl) (pu (.bool true) (by kernel_rfl) (of_ (by kernel_rfl) (of_ (by kernel_rfl) (of_ (by kernel_rfl) (of_ (by kernel_rfl) (of_ (by kernel_rfl) (of_ (by kernel_rfl) ?_)))))))))
     refine of_ (by kernel_rfl) (pu (.bool true) (by kernel_rfl) (seq_nil (wp_condT rfl (wp_seq (rgn (by kernel_rfl) (pu (.bool false) (by kernel_rfl) (seq_nil (wp_ret ?_))))))))
     replace hF := Option.some.inj hF; subst hF
     exact ⟨.bool false, Ret.r1 rfl rfl, ⟨rfl, hI.below⟩⟩
   ·
    refine seq_on (by kernel_rfl) (s_neq rfl rfl (fun _ => ?_) (fun h => absurd (a := y141.2.2 = 0) h h145))
    refine pu (.bool true) (by kernel_rfl) (pu (.bool true) (by kernel_rfl) (of_ (by kernel_rfl) (of_ (by kernel_rfl) (pu (.bool true) (by kernel_rfl) (pu (.bool true) (by kernel_rfl) (of_ (by kernel_rfl) (of_ (by kernel_rfl) (pu (.bool true) (by kernel_rfl) (pu (.bool true) (by kernel_rfl) ?_)))))))))
    refine of_ (by kernel_rfl) (of_ (by kernel_rfl) (pu (.bool true) (by kernel_rfl) (pu (.bool true) (by kernel_rfl) (of_ (by kernel_rfl) (of_ (by kernel_rfl) (of_ (by kernel_rfl) (of_ (by kernel_rfl) (of_ (by kernel_rfl) (pu (.bool true) (by kernel_rfl) ?_)))))))))
    refine pu (.bool true) (by kernel_rfl) (of_ (by kernel_rfl) (of_ (by kernel_rfl) (of_ (by kernel_rfl) (of_ (by kernel_rfl) (of_ (by kernel_rfl) (pu (.bool true) (by kernel_rfl) (pu (.bool true) (by kernel_rfl) (of_ (by kernel_rfl) (of_ (by kernel_rfl) ?_)))))))))
    refine of_ (by kernel_rfl) (of_ (by kernel_rfl) (of_ (by kernel_rfl) (of_ (by kernel_rfl) (of_ (by kernel_rfl) (pu (.bool true) (by kernel_rfl) (seq_nil (wp_condT rfl (wp_seq (rgn (by kernel_rfl) ?_)))))))))
    refine pu (.bool false) (by kernel_rfl) (seq_nil (wp_ret ?_))
    replace hF := Option.some.inj hF; subst hF
    exact ⟨.bool false, Ret.r1 rfl rfl, ⟨rfl, hI.below⟩⟩
  ·
   refine seq_on (by kernel_rfl) (s_neq rfl rfl (fun _ => ?_) (fun h => absurd (a := y135.2.2 = 0) h h144))
   refine pu (.bool true) (by kernel_rfl) (pu (.bool true) (by kernel_rfl) (of_ (by kernel_rfl) (of_ (by kernel_rfl) (pu (.bool true) (by kernel_rfl) (pu (.bool true) (by kernel_rfl) (of_ (by kernel_rfl) (of_ (by kernel_rfl) (pu (.bool true) (by kernel_rfl) (pu (.bool true) (by kernel_rfl) ?_)))))))))
   refine of_ (by kernel_rfl) (of_ (by kernel_rfl) (pu (.bool true) (by kernel_rfl) (pu (.bool true) (by kernel_rfl) (of_ (by kernel_rfl) (of_ (by kernel_rfl) (pu (.bool true) (by kernel_rfl) (pu (.bool true) (by kernel_rfl) (of_ (by kernel_rfl) (of_ (by kernel_rfl) ?_)))))))))
   refine of_ (by kernel_rfl) (of_ (by kernel_rfl) (of_ (by kernel_rfl) (pu (.bool true) (by kernel_rfl) (pu (.bool true) (by kernel_rfl) (of_ (by kernel_rfl) (of_ (by kernel_rfl) (of_ (by kernel_rfl) (of_ (by kernel_rfl) (of_ (by kernel_rfl) ?_)))))))))
   refine pu (.bool true) (by kernel_rfl) (pu (.bool true) (by kernel_rfl) (of_ (by kernel_rfl) (of_ (by kernel_rfl) (of_ (by kernel_rfl) (of_ (by kernel_rfl) (of_ (by kernel_rfl) (of_ (by kernel_rfl) (of_ (by kernel_rfl) (pu (.bool true) (by kernel_rfl) ?_)))))))))
   refine seq_nil (wp_condT rfl (wp_seq (rgn (by kernel_rfl) (pu (.bool false) (by kernel_rfl) (seq_nil (wp_ret ?_))))))
   replace hF := Option.some.inj hF; subst hF
   exact ⟨.bool false, Ret.r1 rfl rfl, ⟨rfl, hI.below⟩⟩
 ·
  refine seq_c (s_neq rfl rfl (fun _ => ?_) (fun h => absurd (a := y129.2.2 = 0) h h143))
  refine pu (.bool true) (by kernel_rfl) (of_ (by kernel_rfl) (of_ (by kernel_rfl) (pu (.bool true) (by kernel_rfl) (pu (.bool true) (by kernel_rfl) (of_ (by kernel_rfl) (of_ (by kernel_rfl) (pu (.bool true) (by kernel_rfl) (pu (.bool true) (by kernel_rfl) (of_ (by kernel_rfl) ?_)))))))))
  refine of_ (by kernel_rfl) (pu (.bool true) (by kernel_rfl) (pu (.bool true) (by kernel_rfl) (of_ (by kernel_rfl) (of_ (by kernel_rfl) (pu (.bool true) (by kernel_rfl) (pu (.bool true) (by kernel_rfl) (of_ (by kernel_rfl) (of_ (by kernel_rfl) (pu (.bool true) (by kernel_rfl) ?_)))))))))
  refine pu (.bool true) (by kernel_rfl) (of_ (by kernel_rfl) (of_ (by kernel_rfl) (of_ (by kernel_rfl) (of_ (by kernel_rfl) (of_ (by kernel_rfl) (pu (.bool true) (by kernel_rfl) (pu (.bool true) (by kernel_rfl) (of_ (by kernel_rfl) (of_ (by kernel_rfl) ?_)))))))))
  refine of_ (by kernel_rfl) (of_ (by kernel_rfl) (of_ (by kernel_rfl) (pu (.bool true) (by kernel_rfl) (pu (.bool true) (by kernel_rfl) (of_ (by kernel_rfl) (of_ (by kernel_rfl) (of_ (by kernel_rfl) (of_ (by kernel_rfl) (of_ (by kernel_rfl) ?_)))))))))
  refine of_ (by kernel_rfl) (of_ (by kernel_rfl) (pu (.bool true) (by kernel_rfl) (seq_nil (wp_condT rfl (wp_seq (rgn (by kernel_rfl) (pu (.bool false) (by kernel_rfl) (seq_nil (wp_ret ?_)))))))))
  replace hF := Option.some.inj hF; subst hF
  exact ⟨.bool false, Ret.r1 rfl rfl, ⟨rfl, hI.below⟩⟩


end Go.K
