/- Contracts of the reference's functions on plots. -/
import Derived.Test.YtinkdlmimiefaaaGreatProg
import Derived.Test.YtinkdlmimiefaaaGreatM4
namespace Go.K
open Go.Proofs Go.RowKit
set_option linter.unusedVariables false
set_option linter.unusedSimpArgs false
set_option maxRecDepth 100000
attribute [local irreducible] Seq Step CallV AnyE opX

def srcsOf (p : Pl) : List Int := p.loads.map Ld.src ++ p.stands.map Ld.src ++ p.spells.map Sp.src
theorem srcs_len {p : Pl} (h : Small p) : (srcsOf p).length ≤ 180 := by
  have h1 := h.s1; have h2 := h.s2; have h3 := h.s3
  simp [srcsOf]; omega
theorem has_yes {l : List Int} {k : Nat} {x y : Int} (hx : l[k]? = some y) (h : y = x) : decide (x ∈ l) = true := by
  subst h; simpa using mem_of_get hx
theorem has_no {l : List Int} {k : Nat} {x : Int} (h : ∀ i y, i < k → l[i]? = some y → y ≠ x) (hk : l.length ≤ k) : decide (x ∈ l) = false := by
  rw [decide_eq_false_iff_not]
  intro hm
  obtain ⟨i, hi, he⟩ := List.getElem_of_mem hm
  exact h i x (by omega) (by rw [List.getElem?_eq_getElem hi, he]) rfl
theorem all_step {α : Type} {Q : Nat → α → Prop} {l : List α} {k : Nat} (h : ∀ i y, i < k → l[i]? = some y → Q i y) {x : α} (hx : l[k]? = some x) (hq : Q k x) : ∀ i y, i < k + 1 → l[i]? = some y → Q i y := fun i y hi hy => by
  by_cases e : i = k
  · subst e; rw [hx] at hy; injection hy with hy; subst hy; exact hq
  · exact h i y (by omega) hy
theorem okl_iff {α : Type} {p : α → Int} {q : α → Nt} : ∀ (l : List α) (last : Int) (S : Int → Bool), okl p q last S l = true ↔ (∀ x ∈ l, p x = 0 ∧ S (q x).s = false ∧ last < (q x).s) ∧ l.Pairwise (fun x y => (q x).s < (q y).s)
  | [], _, _ => by simp [okl]
  | a :: l, last, S => by
    simp only [okl, List.pairwise_cons, List.mem_cons, forall_eq_or_imp]
    by_cases h : p a = 0 ∧ last < (q a).s ∧ S (q a).s = false
    · rw [if_pos h, okl_iff l]
      constructor
      · rintro ⟨h1, h2⟩
        refine ⟨⟨⟨h.1, h.2.2, h.2.1⟩, fun x hx => ?_⟩, fun x hx => (h1 x hx).2.2, h2⟩
        have h3 := h1 x hx
        have hne : (q x).s ≠ (q a).s := by have := h3.2.2; omega
        have h4 := h3.2.1
        rw [if_neg hne] at h4
        exact ⟨h3.1, h4, by have := h.2.1; have := h3.2.2; omega⟩
      · rintro ⟨⟨_, h1⟩, h2, h3⟩
        refine ⟨fun x hx => ?_, h3⟩
        have h4 := h1 x hx; have h5 := h2 x hx
        exact ⟨h4.1, by rw [if_neg (by omega)]; exact h4.2.1, h5⟩
    · rw [if_neg h]
      constructor
      · intro h1; cases h1
      · rintro ⟨⟨⟨h1, h2, h3⟩, _⟩, _⟩; exact absurd ⟨h1, h3, h2⟩ h
/-- One after the other rises. -/
def Adj {α : Type} (f : α → Int) (l : List α) : Prop := ∀ i x y, l[i]? = some x → l[i + 1]? = some y → f x < f y
theorem adj_iff {α : Type} {f : α → Int} {l : List α} : Adj f l ↔ l.Pairwise (fun x y => f x < f y) := by
  constructor
  · intro h
    rw [List.pairwise_iff_getElem]
    have key : ∀ d i j (hi : i < l.length) (hj : j < l.length), j = i + 1 + d → f l[i] < f l[j] := by
      intro d
      induction d with
      | zero => intro i j hi hj e; exact h i _ _ (List.getElem?_eq_getElem hi) (by subst e; exact List.getElem?_eq_getElem hj)
      | succ d ih =>
        intro i j hi hj e
        have h1 := ih i (j - 1) hi (by omega) (by omega)
        have h2 := h (j - 1) _ _ (List.getElem?_eq_getElem (by omega)) (by rw [show j - 1 + 1 = j by omega]; exact List.getElem?_eq_getElem hj)
        omega
    intro i j hi hj hij
    exact key (j - i - 1) i j hi hj (by omega)
  · intro h i x y hx hy
    rw [List.pairwise_iff_getElem] at h
    have h1 := lt_of_get hx; have h2 := lt_of_get hy
    rw [List.getElem?_eq_getElem h1] at hx; rw [List.getElem?_eq_getElem h2] at hy
    injection hx with hx; injection hy with hy
    rw [← hx, ← hy]
    exact h i (i + 1) h1 h2 (by omega)
/-- What the reference asks of a plot. -/
structure RefOk (p : Pl) : Prop where
  sown : areSheavesB p.lo p.hi = true
  g0 : 0 ≤ p.geese
  g1 : p.geese ≤ 60
  l1 : p.loads.length ≤ 60
  l2 : p.stands.length ≤ 60
  l3 : p.spells.length ≤ 60
  o1 : ∀ x ∈ p.loads, okL 10 x = 0
  a1 : Adj Ld.src p.loads
  o2 : ∀ x ∈ p.stands, okL 11 x = 0
  a2 : Adj Ld.src p.stands
  o3 : ∀ x ∈ p.spells, okS x = 0
  a3 : Adj Sp.src p.spells
  nd : (srcsOf p).Nodup
theorem okL_pos {e : Int} {x : Ld} (he : e ≠ 0) (h : okL e x = 0) : 0 < x.src := by
  have := codeI_ok h he
  simp only [loadB, validB, Bool.and_eq_true, decide_eq_true_eq] at this
  omega
theorem okS_pos {x : Sp} (h : okS x = 0) : 0 < x.src := by
  have := codeI_ok h (by decide)
  simp only [spellB, validB, Bool.and_eq_true, decide_eq_true_eq] at this
  omega
theorem seenB_false {α : Type} {q : α → Nt} {S : Int → Bool} {l : List α} {j : Int} : seenB q S l j = false ↔ S j = false ∧ ∀ y ∈ l, j ≠ (q y).s := by
  simp [seenB, List.any_eq_false]
theorem pw_nodup {α : Type} {f : α → Int} {l : List α} (h : l.Pairwise (fun x y => f x < f y)) : (l.map f).Nodup := by
  rw [List.Nodup, List.pairwise_map]
  exact h.imp fun h => by omega
theorem plotB_iff (p : Pl) : plotB p = true ↔ RefOk p := by
  simp only [plotB, checkB, Bool.and_eq_true, decide_eq_true_eq, okl_iff]
  constructor
  · rintro ⟨⟨⟨⟨⟨h1, h2⟩, h3⟩, h4, h5, h6⟩, h7, h8, h9⟩, h10, h11, h12⟩
    refine ⟨h1, h2, h3, h4, h7, h10, fun x hx => (h5 x hx).1, adj_iff.2 h6, fun x hx => (h8 x hx).1, adj_iff.2 h9, fun x hx => (h11 x hx).1, adj_iff.2 h12, ?_⟩
    unfold srcsOf
    rw [List.nodup_append, List.nodup_append]
    refine ⟨⟨pw_nodup h6, pw_nodup h9, ?_⟩, pw_nodup h12, ?_⟩
    · intro a ha b hb
      obtain ⟨x, hx, rfl⟩ := List.mem_map.1 ha
      obtain ⟨y, hy, rfl⟩ := List.mem_map.1 hb
      have := (seenB_false.1 (h8 y hy).2.1).2 x hx
      exact fun e => this e.symm
    · intro a ha b hb
      obtain ⟨y, hy, rfl⟩ := List.mem_map.1 hb
      have h13 := seenB_false.1 (h11 y hy).2.1
      rcases List.mem_append.1 ha with ha | ha
      · obtain ⟨x, hx, rfl⟩ := List.mem_map.1 ha
        exact fun e => (seenB_false.1 h13.1).2 x hx e.symm
      · obtain ⟨x, hx, rfl⟩ := List.mem_map.1 ha
        exact fun e => h13.2 x hx e.symm
  · intro h
    have hn := h.nd
    unfold srcsOf at hn
    rw [List.nodup_append, List.nodup_append] at hn
    obtain ⟨⟨n1, n2, n3⟩, n4, n5⟩ := hn
    have m {α : Type} {f : α → Int} {l : List α} {x : α} (hx : x ∈ l) : f x ∈ l.map f := List.mem_map.2 ⟨x, hx, rfl⟩
    refine ⟨⟨⟨⟨⟨h.sown, h.g0⟩, h.g1⟩, h.l1, fun x hx => ⟨h.o1 x hx, by simp, okL_pos (by decide) (h.o1 x hx)⟩, adj_iff.1 h.a1⟩, h.l2, fun x hx => ⟨h.o2 x hx, ?_, okL_pos (by decide) (h.o2 x hx)⟩, adj_iff.1 h.a2⟩, h.l3, fun x hx => ⟨h.o3 x hx, ?_, okS_pos (h.o3 x hx)⟩, adj_iff.1 h.a3⟩
    · exact seenB_false.2 ⟨rfl, fun y hy e => n3 y.src (m hy) x.src (m hx) e.symm⟩
    · refine seenB_false.2 ⟨seenB_false.2 ⟨rfl, fun y hy e => n5 y.src (List.mem_append_left _ (m hy)) x.src (m hx) e.symm⟩, fun y hy e => n5 y.src (List.mem_append_right _ (m hy)) x.src (m hx) e.symm⟩


theorem Has_c (w0 : World) (l : List Int) (A : Option Addr) (n c : Nat) (x : Int) (hn : n = l.length) (hmax : n ≤ 9223372036854775807) (hC : Cells w0 A (flat eInt l)) : Does Tryz.prog 59 [.slice A n c, .int .i64 x] w0 fun v w => v = .bool (decide (x ∈ l)) ∧ Below w0.heap.size w0 w := by
 refine calls_of (n := 18) Tryz.func59 rfl Tryz.ntmps59 rfl ?_
 have hI := Inv.start w0
 refine wp_seq (rgn (by kernel_rfl) (pu (.bool false) (by kernel_rfl) (seq_nil (wp_seq (wp_seq (rgn (by kernel_rfl) (pu (iv 0) (by kernel_rfl) (seq_nil (wp_block ?_)))))))))
 refine wp_loop (fun m ρ w => ∃ (k : Nat), Agree ρ [(0, .slice A n c), (1, iv x), (5, iv (k : Int))] ∧ Inv none w0 w [] ∧ (k ≤ n) ∧ (∀ i y, i < k → l[i]? = some y → y ≠ x) ∧ m = n - k) (m := n - 0) ⟨0, ⟨rfl, rfl, rfl, trivial⟩, hI.pickL [] (by decide) rfl, (by omega), (fun i y h => absurd h (by omega)), rfl⟩ ?_
 rintro m ρ w ⟨k, hag, hI, hk, hno, hm⟩
 obtain ⟨ρ, rfl⟩ := hag.form; clear hag
 refine wp_seq (wp_seq (rgn (by kernel_rfl) (pu (iv (k : Int)) (by kernel_rfl) (pu (.slice A n c) (by kernel_rfl) (pu (iv ((n : Nat) : Int)) (by kernel_rfl) (seq_c (s_lss rfl rfl ?_ ?_)))))))
 ·intro h1
  refine seq_nil (wp_condT rfl (wp_skip (wp_seq (wp_block ?_))))
  refine wp_seq (rgn (by kernel_rfl) (pu (.slice A n c) (by kernel_rfl) (pu (iv (k : Int)) (by kernel_rfl) ?_)))
  obtain ⟨x1, hx2⟩ := get_lt (l := l) (i := k) (by omega)
  obtain ⟨b3, o4, hA5, hb6, he7⟩ := hC.at_ eInt_len (by decide) hx2
  refine seq_c (s_indexA k Tryz.underlying41 Tryz.sizeOf3 rfl hA5 rfl rfl (by omega) ?_)
  refine seq_c (s_loadB1 hI (iv x1) Tryz.isAgg3 rfl hb6 (by simp) (he7 0 _ rfl) ?_)
  refine pu (iv x) (by kernel_rfl) (seq_c (s_eql rfl rfl ?_ ?_))
  ·intro h2
   refine seq_nil (wp_condT rfl (wp_seq (rgn (by kernel_rfl) (pu (.bool true) (by kernel_rfl) (seq_nil (wp_ret ?_))))))
   exact ⟨.bool true, Ret.r1 rfl rfl, ⟨by rw [has_yes hx2 (by assumption)], hI.below⟩⟩
  ·intro h3
   refine seq_nil (wp_condF rfl (wp_skip (rgn (by kernel_rfl) (pu (iv (k : Int)) (by kernel_rfl) (seq_c (s_add rfl rfl (by omega) ?_))))))
   refine pu (iv ((k : Int) + 1)) (by kernel_rfl) (seq_nil ?_)
   exact ⟨rfl, _, (by omega), ⟨k + 1, ⟨rfl, rfl, rfl, trivial⟩, hI.pickL [] (by decide) rfl, (by omega), (all_step (Q := fun _ y => y ≠ x) hno hx2 (by assumption)), rfl⟩⟩
 ·intro h4
  refine seq_nil (wp_condF rfl (wp_exit ?_))
  refine wp_seq (rgn (by kernel_rfl) (pu (.bool false) (by kernel_rfl) (seq_nil (wp_ret ?_))))
  exact ⟨.bool false, Ret.r1 rfl rfl, ⟨by rw [has_no hno (by omega)], hI.below⟩⟩


theorem sources_c (w0 : World) (pl : Pl) (pA1 : Option Addr) (pn1 pc1 : Nat) (pA2 : Option Addr) (pn2 pc2 : Nat) (pA3 : Option Addr) (pn3 pc3 : Nat) (hP : PlotIn w0 pl pA1 pn1 pA2 pn2 pA3 pn3) (hS : Small pl) : Does Tryz.prog 64 [.agg #[.int .i64 pl.lo, .int .i64 pl.hi, .slice pA1 pn1 pc1, .slice pA2 pn2 pc2, .slice pA3 pn3 pc3, .int .i64 pl.geese]] w0 fun v w => Gives 1 3 none (srcsOf pl).length (flat eInt (srcsOf pl)) w0 v w := by
 have hm1 := hP.m1; have hm2 := hP.m2; have hm3 := hP.m3; have hs1 := hS.s1; have hs2 := hS.s2; have hs3 := hS.s3
 refine calls_of (n := 56) Tryz.func64 rfl Tryz.ntmps64 rfl ?_
 have hI := Inv.start w0
 refine wp_seq (rgn (by kernel_rfl) (seq_c (s_boxI hI [iv pl.lo, iv pl.hi, .slice pA1 pn1 pc1, .slice pA2 pn2 pc2, .slice pA3 pn3 pc3, iv pl.geese] rfl ?_)))
 intro b1 w hI
 refine pu (.slice none 0 0) (by kernel_rfl) (seq_nil (wp_seq (rgn (by kernel_rfl) (pu (.slice none 0 0) (by kernel_rfl) (seq_nil (wp_seq (wp_seq (rgn (by kernel_rfl) (pu (iv 0) (by kernel_rfl) ?_)))))))))
 refine seq_nil (wp_block ?_)
 have hI := hI.nilRow 3
 refine wp_loop (fun m ρ w => ∃ (k0 : Nat) (gg0 : Option Nat) (cc0 : Nat) (ccl0 : List Value), Agree ρ [(1, .pointer (some ⟨b1, 0, none⟩)), (3, slv gg0 k0 cc0), (4, iv (k0 : Int))] ∧ Inv none w0 w [(gg0, blk ccl0 3), (some b1, blk [iv pl.lo, iv pl.hi, .slice pA1 pn1 pc1, .slice pA2 pn2 pc2, .slice pA3 pn3 pc3, iv pl.geese] 28)] ∧ (k0 ≤ pn1) ∧ (Row 1 gg0 (k0) cc0 ccl0 (flat eInt ((pl.loads.take k0).map Ld.src))) ∧ m = pn1 - k0) (m := pn1 - 0) ⟨0, none, 0, [], ⟨rfl, rfl, rfl, trivial⟩, hI.pickL [0, 1] (by decide) rfl, (by omega), (Row.nil_ 1), rfl⟩ ?_
 rintro m ρ w ⟨k0, gg0, cc0, ccl0, hag, hI, hk0, hrr0, hm⟩
 obtain ⟨ρ, rfl⟩ := hag.form; clear hag
 refine wp_seq (wp_seq (rgn (by kernel_rfl) (pu (iv (k0 : Int)) (by kernel_rfl) (pu (.pointer (some ⟨b1, 2, none⟩)) (by kernel_rfl) (seq_c (s_load1 hI 1 (.slice pA1 pn1 pc1) Tryz.isAgg24 rfl rfl rfl ?_))))))
 refine pu (iv ((pn1 : Nat) : Int)) (by kernel_rfl) (seq_c (s_lss rfl rfl ?_ ?_))
 ·intro h1
  refine seq_nil (wp_condT rfl (wp_skip (wp_seq (wp_block ?_))))
  refine rgn (by kernel_rfl) (pu (slv gg0 k0 cc0) (by kernel_rfl) (pu (.pointer (some ⟨b1, 2, none⟩)) (by kernel_rfl) (seq_c (s_load1 hI 1 (.slice pA1 pn1 pc1) Tryz.isAgg24 rfl rfl rfl ?_))))
  refine pu (iv (k0 : Int)) (by kernel_rfl) ?_
  obtain ⟨x2, hx3⟩ := get_lt (l := pl.loads) (i := k0) (by omega)
  obtain ⟨b4, o5, hA6, hb7, he8⟩ := hP.c1.at_ eLd_len (by decide) hx3
  refine seq_c (s_indexA k0 Tryz.underlying24 Tryz.sizeOf30 rfl hA6 rfl rfl (by omega) ?_)
  refine pu (.pointer (some ⟨b4, o5 + k0 * 6, none⟩)) (by kernel_rfl) (seq_c (s_loadB1 hI (iv x2.src) Tryz.isAgg3 rfl hb7 (by simp) (he8 0 _ rfl) ?_))
  refine seq_c (s_new hI [iv x2.src] 3 (fun b => slv (some b) 1 1) (by kernel_rfl) ?_)
  intro b9 w hI
  refine seq_c (s_app hI Tryz.underlying41 (z := iv 0) (k := 1) (bytes := 8) (by kernel_rfl) rfl rfl 1 rfl rfl hrr0 [iv x2.src] rfl rfl (hI.cells 0 (off := 0) rfl (fun j u h => by rw [Nat.zero_add]; exact h)) (by simp [Value.oneCell']) (by omega) (by omega) ?_)
  intro g10 c11 cl12 w hI r13
  have r13 : Row 1 g10 (k0 + 1) c11 cl12 (flat eInt (((pl.loads.take k0).map Ld.src) ++ [x2.src])) := r13.snoc _ rfl
  refine pu (slv g10 (k0 + 1) c11) (by kernel_rfl) (seq_nil (rgn (by kernel_rfl) (pu (iv (k0 : Int)) (by kernel_rfl) (seq_c (s_add rfl rfl (by omega) ?_)))))
  refine pu (iv ((k0 : Int) + 1)) (by kernel_rfl) (seq_nil ?_)
  exact ⟨rfl, _, (by omega), ⟨k0 + 1, g10, c11, cl12, ⟨rfl, rfl, rfl, trivial⟩, hI.pickL [1, 2] (by decide) rfl, (by omega), (r13.to (by rw [take_get hx3]; simp) (by omega)), rfl⟩⟩
 ·intro h2
  refine seq_nil (wp_condF rfl (wp_exit ?_))
  refine wp_seq (wp_seq (rgn (by kernel_rfl) (pu (iv 0) (by kernel_rfl) (seq_nil (wp_block ?_)))))
  have hkk : pn1 = k0 := by omega
  subst hkk
  refine wp_loop (fun m ρ w => ∃ (k1 : Nat) (gg1 : Option Nat) (cc1 : Nat) (ccl1 : List Value), Agree ρ [(1, .pointer (some ⟨b1, 0, none⟩)), (3, slv gg1 (pn1 + k1) cc1), (5, iv (k1 : Int))] ∧ Inv none w0 w [(gg1, blk ccl1 3), (some b1, blk [iv pl.lo, iv pl.hi, .slice pA1 pn1 pc1, .slice pA2 pn2 pc2, .slice pA3 pn3 pc3, iv pl.geese] 28)] ∧ (k1 ≤ pn2) ∧ (Row 1 gg1 (pn1 + k1) cc1 ccl1 (flat eInt (pl.loads.map Ld.src ++ (pl.stands.take k1).map Ld.src))) ∧ m = pn2 - k1) (m := pn2 - 0) ⟨0, gg0, cc0, ccl0, ⟨rfl, rfl, rfl, trivial⟩, hI.pickL [0, 1] (by decide) rfl, (by omega), (hrr0.to (by rw [List.take_of_length_le (by omega)]; simp) (by omega)), rfl⟩ ?_
  rintro m ρ w ⟨k1, gg1, cc1, ccl1, hag, hI, hk1, hrr1, hm⟩
  obtain ⟨ρ, rfl⟩ := hag.form; clear hag
  refine wp_seq (wp_seq (rgn (by kernel_rfl) (pu (iv (k1 : Int)) (by kernel_rfl) (pu (.pointer (some ⟨b1, 3, none⟩)) (by kernel_rfl) (seq_c (s_load1 hI 1 (.slice pA2 pn2 pc2) Tryz.isAgg25 rfl rfl rfl ?_))))))
  refine pu (iv ((pn2 : Nat) : Int)) (by kernel_rfl) (seq_c (s_lss rfl rfl ?_ ?_))
  ·intro h3
   refine seq_nil (wp_condT rfl (wp_skip (wp_seq (wp_block ?_))))
   refine rgn (by kernel_rfl) (pu (slv gg1 (pn1 + k1) cc1) (by kernel_rfl) (pu (.pointer (some ⟨b1, 3, none⟩)) (by kernel_rfl) (seq_c (s_load1 hI 1 (.slice pA2 pn2 pc2) Tryz.isAgg25 rfl rfl rfl ?_))))
   refine pu (iv (k1 : Int)) (by kernel_rfl) ?_
   obtain ⟨x14, hx15⟩ := get_lt (l := pl.stands) (i := k1) (by omega)
   obtain ⟨b16, o17, hA18, hb19, he20⟩ := hP.c2.at_ eLd_len (by decide) hx15
   refine seq_c (s_indexA k1 Tryz.underlying25 Tryz.sizeOf31 rfl hA18 rfl rfl (by omega) ?_)
   refine pu (.pointer (some ⟨b16, o17 + k1 * 6, none⟩)) (by kernel_rfl) (seq_c (s_loadB1 hI (iv x14.src) Tryz.isAgg3 rfl hb19 (by simp) (he20 0 _ rfl) ?_))
   refine seq_c (s_new hI [iv x14.src] 3 (fun b => slv (some b) 1 1) (by kernel_rfl) ?_)
   intro b21 w hI
   refine seq_c (s_app hI Tryz.underlying41 (z := iv 0) (k := 1) (bytes := 8) (by kernel_rfl) rfl rfl 1 rfl rfl hrr1 [iv x14.src] rfl rfl (hI.cells 0 (off := 0) rfl (fun j u h => by rw [Nat.zero_add]; exact h)) (by simp [Value.oneCell']) (by omega) (by omega) ?_)
   intro g22 c23 cl24 w hI r25
   have r25 : Row 1 g22 (pn1 + k1 + 1) c23 cl24 (flat eInt ((pl.loads.map Ld.src ++ (pl.stands.take k1).map Ld.src) ++ [x14.src])) := r25.snoc _ rfl
   refine pu (slv g22 (pn1 + k1 + 1) c23) (by kernel_rfl) (seq_nil (rgn (by kernel_rfl) (pu (iv (k1 : Int)) (by kernel_rfl) (seq_c (s_add rfl rfl (by omega) ?_)))))
   refine pu (iv ((k1 : Int) + 1)) (by kernel_rfl) (seq_nil ?_)
   exact ⟨rfl, _, (by omega), ⟨k1 + 1, g22, c23, cl24, ⟨rfl, rfl, rfl, trivial⟩, hI.pickL [1, 2] (by decide) rfl, (by omega), (r25.to (by rw [take_get hx15]; simp) (by omega)), rfl⟩⟩
  ·intro h4
   refine seq_nil (wp_condF rfl (wp_exit ?_))
   refine wp_seq (wp_seq (rgn (by kernel_rfl) (pu (iv 0) (by kernel_rfl) (seq_nil (wp_block ?_)))))
   have hkk : pn2 = k1 := by omega
   subst hkk
   refine wp_loop (fun m ρ w => ∃ (k2 : Nat) (gg2 : Option Nat) (cc2 : Nat) (ccl2 : List Value), Agree ρ [(1, .pointer (some ⟨b1, 0, none⟩)), (3, slv gg2 (pn1 + pn2 + k2) cc2), (6, iv (k2 : Int))] ∧ Inv none w0 w [(gg2, blk ccl2 3), (some b1, blk [iv pl.lo, iv pl.hi, .slice pA1 pn1 pc1, .slice pA2 pn2 pc2, .slice pA3 pn3 pc3, iv pl.geese] 28)] ∧ (k2 ≤ pn3) ∧ (Row 1 gg2 (pn1 + pn2 + k2) cc2 ccl2 (flat eInt (pl.loads.map Ld.src ++ pl.stands.map Ld.src ++ (pl.spells.take k2).map Sp.src))) ∧ m = pn3 - k2) (m := pn3 - 0) ⟨0, gg1, cc1, ccl1, ⟨rfl, rfl, rfl, trivial⟩, hI.pickL [0, 1] (by decide) rfl, (by omega), (hrr1.to (by rw [List.take_of_length_le (by omega)]; simp) (by omega)), rfl⟩ ?_
   rintro m ρ w ⟨k2, gg2, cc2, ccl2, hag, hI, hk2, hrr2, hm⟩
   obtain ⟨ρ, rfl⟩ := hag.form; clear hag
   refine wp_seq (wp_seq (rgn (by kernel_rfl) (pu (iv (k2 : Int)) (by kernel_rfl) (pu (.pointer (some ⟨b1, 4, none⟩)) (by kernel_rfl) (seq_c (s_load1 hI 1 (.slice pA3 pn3 pc3) Tryz.isAgg26 rfl rfl rfl ?_))))))
   refine pu (iv ((pn3 : Nat) : Int)) (by kernel_rfl) (seq_c (s_lss rfl rfl ?_ ?_))
   ·intro h5
    refine seq_nil (wp_condT rfl (wp_skip (wp_seq (wp_block ?_))))
    refine rgn (by kernel_rfl) (pu (slv gg2 (pn1 + pn2 + k2) cc2) (by kernel_rfl) (pu (.pointer (some ⟨b1, 4, none⟩)) (by kernel_rfl) (seq_c (s_load1 hI 1 (.slice pA3 pn3 pc3) Tryz.isAgg26 rfl rfl rfl ?_))))
    refine pu (iv (k2 : Int)) (by kernel_rfl) ?_
    obtain ⟨x26, hx27⟩ := get_lt (l := pl.spells) (i := k2) (by omega)
    obtain ⟨b28, o29, hA30, hb31, he32⟩ := hP.c3.at_ eSp_len (by decide) hx27
    refine seq_c (s_indexA k2 Tryz.underlying26 Tryz.sizeOf33 rfl hA30 rfl rfl (by omega) ?_)
    refine pu (.pointer (some ⟨b28, o29 + k2 * 6, none⟩)) (by kernel_rfl) (seq_c (s_loadB1 hI (iv x26.src) Tryz.isAgg3 rfl hb31 (by simp) (he32 0 _ rfl) ?_))
    refine seq_c (s_new hI [iv x26.src] 3 (fun b => slv (some b) 1 1) (by kernel_rfl) ?_)
    intro b33 w hI
    refine seq_c (s_app hI Tryz.underlying41 (z := iv 0) (k := 1) (bytes := 8) (by kernel_rfl) rfl rfl 1 rfl rfl hrr2 [iv x26.src] rfl rfl (hI.cells 0 (off := 0) rfl (fun j u h => by rw [Nat.zero_add]; exact h)) (by simp [Value.oneCell']) (by omega) (by omega) ?_)
    intro g34 c35 cl36 w hI r37
    have r37 : Row 1 g34 (pn1 + pn2 + k2 + 1) c35 cl36 (flat eInt ((pl.loads.map Ld.src ++ pl.stands.map Ld.src ++ (pl.spells.take k2).map Sp.src) ++ [x26.src])) := r37.snoc _ rfl
    refine pu (slv g34 (pn1 + pn2 + k2 + 1) c35) (by kernel_rfl) (seq_nil (rgn (by kernel_rfl) (pu (iv (k2 : Int)) (by kernel_rfl) (seq_c (s_add rfl rfl (by omega) ?_)))))
    refine pu (iv ((k2 : Int) + 1)) (by kernel_rfl) (seq_nil ?_)
    exact ⟨rfl, _, (by omega), ⟨k2 + 1, g34, c35, cl36, ⟨rfl, rfl, rfl, trivial⟩, hI.pickL [1, 2] (by decide) rfl, (by omega), (r37.to (by rw [take_get hx27]; simp) (by omega)), rfl⟩⟩
   ·intro h6
    refine seq_nil (wp_condF rfl (wp_exit ?_))
    refine wp_seq (rgn (by kernel_rfl) (pu (slv gg2 (pn1 + pn2 + k2) cc2) (by kernel_rfl) (pu (slv gg2 (pn1 + pn2 + k2) cc2) (by kernel_rfl) (seq_nil (wp_ret ?_)))))
    exact ⟨slv gg2 (pn1 + pn2 + k2) cc2, Ret.r1 rfl rfl, ⟨gg2, cc2, ccl2, (by rw [show pn1 + pn2 + k2 = (srcsOf pl).length by simp [srcsOf]; omega]), hI.pickL [0] (by decide) rfl, hrr2.to (by rw [List.take_of_length_le (by omega)]; rfl) (by simp [srcsOf]; omega)⟩⟩


theorem without_c (w0 : World) (pl : Pl) (pA1 : Option Addr) (pn1 pc1 : Nat) (pA2 : Option Addr) (pn2 pc2 : Nat) (pA3 : Option Addr) (pn3 pc3 : Nat) (hP : PlotIn w0 pl pA1 pn1 pA2 pn2 pA3 pn3) (hS : Small pl) (s : Int) : Does Tryz.prog 65 [.agg #[.int .i64 pl.lo, .int .i64 pl.hi, .slice pA1 pn1 pc1, .slice pA2 pn2 pc2, .slice pA3 pn3 pc3, .int .i64 pl.geese], .int .i64 s] w0 fun v w => ∃ v1, v = .tuple #[v1, .bool (decide (s ∈ srcsOf pl))] ∧ GivesPlot (keepP (fun y => decide (y.s ≠ s)) pl) w0 v1 w := by
 have hm1 := hP.m1; have hm2 := hP.m2; have hm3 := hP.m3; have hs1 := hS.s1; have hs2 := hS.s2; have hs3 := hS.s3
 have hsl := srcs_len hS
 refine calls_of (n := 95) Tryz.func65 rfl Tryz.ntmps65 rfl ?_
 have hI := Inv.start w0
 refine wp_seq (rgn (by kernel_rfl) (seq_c (s_boxI hI [iv pl.lo, iv pl.hi, .slice pA1 pn1 pc1, .slice pA2 pn2 pc2, .slice pA3 pn3 pc3, iv pl.geese] rfl ?_)))
 intro b1 w hI
 refine seq_c (s_allocI hI [iv 0, iv 0, .slice none 0 0, .slice none 0 0, .slice none 0 0, iv 0] Tryz.zeroValue28 rfl ?_)
 intro b2 w hI
 refine pu (.bool false) (by kernel_rfl) (seq_nil (wp_seq (rgn (by kernel_rfl) (pu (.pointer (some ⟨b1, 0, none⟩)) (by kernel_rfl) (seq_c (s_loadK hI 1 2 [iv pl.lo, iv pl.hi] Tryz.isAgg23 Tryz.sizeOf23 rfl rfl rfl rfl ?_))))))
 refine pu (.pointer (some ⟨b1, 5, none⟩)) (by kernel_rfl) (seq_c (s_load1 hI 1 (iv pl.geese) Tryz.isAgg3 rfl rfl rfl ?_))
 refine pu (.agg #[iv pl.lo, iv pl.hi, .slice none 0 0, .slice none 0 0, .slice none 0 0, iv pl.geese]) (by kernel_rfl) (seq_c (s_allocI hI [iv 0, iv 0, .slice none 0 0, .slice none 0 0, .slice none 0 0, iv 0] Tryz.zeroValue28 rfl ?_))
 intro b3 w hI
 refine seq_c (s_store hI 0 6 [iv pl.lo, iv pl.hi, .slice none 0 0, .slice none 0 0, .slice none 0 0, iv pl.geese] Tryz.sizeOf28 rfl rfl rfl rfl rfl (Nat.le_of_ble_eq_true rfl) ?_)
 intro w hI
 refine seq_nil (wp_seq (wp_seq (rgn (by kernel_rfl) (pu (iv 0) (by kernel_rfl) (seq_nil (wp_block ?_))))))
 have hI := hI.nilRow 30
 refine wp_loop (fun m ρ w => ∃ (k0 : Nat) (nn0 : Nat) (gg0 : Option Nat) (cc0 : Nat) (ccl0 : List Value), Agree ρ [(1, iv s), (2, .pointer (some ⟨b1, 0, none⟩)), (4, .pointer (some ⟨b2, 0, none⟩)), (6, .pointer (some ⟨b3, 0, none⟩)), (7, iv (k0 : Int))] ∧ Inv none w0 w [(gg0, blk ccl0 30), (some b3, blk [iv pl.lo, iv pl.hi, slv gg0 nn0 cc0, .slice none 0 0, .slice none 0 0, iv pl.geese] 28), (some b2, blk [iv 0, iv 0, .slice none 0 0, .slice none 0 0, .slice none 0 0, iv 0] 28), (some b1, blk [iv pl.lo, iv pl.hi, .slice pA1 pn1 pc1, .slice pA2 pn2 pc2, .slice pA3 pn3 pc3, iv pl.geese] 28)] ∧ (k0 ≤ pn1) ∧ (nn0 = ((pl.loads.take k0).filter (fun x : Ld => decide (x.src ≠ s))).length) ∧ (Row 6 gg0 (nn0) cc0 ccl0 (flat eLd (((pl.loads.take k0).filter (fun x : Ld => decide (x.src ≠ s)))))) ∧ m = pn1 - k0) (m := pn1 - 0) ⟨0, 0, none, 0, [], ⟨rfl, rfl, rfl, rfl, rfl, trivial⟩, hI.pickL [0, 1, 2, 3] (by decide) rfl, (by omega), rfl, (Row.nil_ 6), rfl⟩ ?_
 rintro m ρ w ⟨k0, nn0, gg0, cc0, ccl0, hag, hI, hk0, hnn0, hrr0, hm⟩
 obtain ⟨ρ, rfl⟩ := hag.form; clear hag
 have hlen := Nat.le_trans (List.length_filter_le (fun x : Ld => decide (x.src ≠ s)) (pl.loads.take k0)) (List.length_take_le k0 _)
 refine wp_seq (wp_seq (rgn (by kernel_rfl) (pu (iv (k0 : Int)) (by kernel_rfl) (pu (.pointer (some ⟨b1, 2, none⟩)) (by kernel_rfl) (seq_c (s_load1 hI 3 (.slice pA1 pn1 pc1) Tryz.isAgg24 rfl rfl rfl ?_))))))
 refine pu (iv ((pn1 : Nat) : Int)) (by kernel_rfl) (seq_c (s_lss rfl rfl ?_ ?_))
 ·intro h1
  refine seq_nil (wp_condT rfl (wp_skip (wp_seq (wp_block ?_))))
  refine wp_seq (rgn (by kernel_rfl) (pu (.pointer (some ⟨b1, 2, none⟩)) (by kernel_rfl) (seq_c (s_load1 hI 3 (.slice pA1 pn1 pc1) Tryz.isAgg24 rfl rfl rfl ?_))))
  refine pu (iv (k0 : Int)) (by kernel_rfl) ?_
  obtain ⟨x4, hx5⟩ := get_lt (l := pl.loads) (i := k0) (by omega)
  obtain ⟨b6, o7, hA8, hb9, he10⟩ := hP.c1.at_ eLd_len (by decide) hx5
  refine seq_c (s_indexA k0 Tryz.underlying24 Tryz.sizeOf30 rfl hA8 rfl rfl (by omega) ?_)
  refine pu (.pointer (some ⟨b6, o7 + k0 * 6, none⟩)) (by kernel_rfl) (seq_c (s_loadB1 hI (iv x4.src) Tryz.isAgg3 rfl hb9 (by simp) (he10 0 _ rfl) ?_))
  refine pu (iv s) (by kernel_rfl) (seq_c (s_neq rfl rfl ?_ ?_))
  ·intro h2
   refine seq_nil (wp_condT rfl ?_)
   replace hI := hI.pickL [2, 3, 0, 1] (by decide) rfl
   refine wp_drawn2 hI [0, 1] (by decide) rfl (by kernel_rfl) (by kernel_rfl) ?_
   intro hsub
   refine alp 0 (.pointer (some ⟨b3, 2, none⟩)) hsub rfl (by kernel_rfl) (fun _ => (by kernel_rfl)) ?_
   refine alp 2 (.pointer (some ⟨b1, 2, none⟩)) hsub rfl (by kernel_rfl) (fun _ => (by kernel_rfl)) ?_
   refine al_light 3 (.slice pA1 pn1 pc1) hsub rfl (by kernel_rfl) (fun w hI => s_load1 hI 1 (.slice pA1 pn1 pc1) Tryz.isAgg24 rfl rfl rfl ⟨rfl, Below.refl _ _⟩) ?_
   refine alp 4 (iv (k0 : Int)) hsub rfl (by kernel_rfl) (fun _ => (by kernel_rfl)) ?_
   refine al_light 5 (.pointer (some ⟨b6, o7 + k0 * 6, none⟩)) hsub rfl (by kernel_rfl) (fun w hI => s_indexA k0 Tryz.underlying24 Tryz.sizeOf30 rfl hA8 rfl rfl (by omega) ⟨rfl, Below.refl _ _⟩) ?_
   refine al_light 6 (.agg #[iv x4.src, iv x4.hr, iv x4.lo, iv x4.hi, iv x4.kn, iv x4.un]) hsub rfl (by kernel_rfl) (fun w hI => s_loadBK hI [iv x4.src, iv x4.hr, iv x4.lo, iv x4.hi, iv x4.kn, iv x4.un] Tryz.isAgg30 Tryz.sizeOf30 rfl rfl hb9 (by simp) he10 ⟨rfl, Below.refl _ _⟩) ?_
   refine any_heavy [1, 7] (by kernel_rfl) rfl (each2 ?_ ?_)
   ·intro w hI
    refine ol_c rfl (s_load1 hI 3 (slv gg0 nn0 cc0) Tryz.isAgg24 rfl rfl rfl ?_)
    refine ⟨_, hI, subk (fun _ h => h.pickL [0, 1] (by decide) rfl) ?_⟩
    intro hsub
    refine any_heavy [7] (by kernel_rfl) rfl (each1 ?_)
    intro w hI
    refine ol_c rfl (s_new hI [iv x4.src, iv x4.hr, iv x4.lo, iv x4.hi, iv x4.kn, iv x4.un] 30 (fun b => slv (some b) 1 1) (by kernel_rfl) ?_)
    intro b11 w hI
    refine ⟨_, hI, subk (fun _ h => h.pickL [1, 2] (by decide) rfl) ?_⟩
    intro hsub
    refine any_heavy [8] (by kernel_rfl) rfl (each1 ?_)
    intro w hI
    refine ol_c rfl (s_app hI Tryz.underlying24 (z := .agg #[iv 0, iv 0, iv 0, iv 0, iv 0, iv 0]) (k := 6) (bytes := 48) (by kernel_rfl) rfl rfl 3 rfl rfl hrr0 [iv x4.src, iv x4.hr, iv x4.lo, iv x4.hi, iv x4.kn, iv x4.un] rfl rfl (hI.cells 0 (off := 0) rfl (fun j u h => by rw [Nat.zero_add]; exact h)) (by simp [Value.oneCell']) (by omega) (by omega) ?_)
    intro g12 c13 cl14 w hI r15
    refine ⟨_, hI, subk (fun _ h => h.pickL [1, 2] (by decide) rfl) ?_⟩
    intro hsub
    have r15 : Row 6 g12 (nn0 + 1) c13 cl14 (flat eLd (((pl.loads.take k0).filter (fun x : Ld => decide (x.src ≠ s))) ++ [(⟨x4.src, x4.hr, x4.lo, x4.hi, x4.kn, x4.un⟩ : Ld)])) := r15.snoc _ rfl
    refine alp 9 (.pointer (some ⟨b3, 2, none⟩)) hsub rfl (by kernel_rfl) (fun _ => (by kernel_rfl)) ?_
    refine any_heavy [10] (by kernel_rfl) rfl (each1 ?_)
    intro w hI
    refine ol_c rfl (s_store hI 4 1 [slv g12 (nn0 + 1) c13] Tryz.sizeOf24 rfl rfl rfl rfl rfl (Nat.le_of_ble_eq_true rfl) ?_)
    intro w hI
    refine ⟨_, hI, subk (fun _ h => h.pickL [1, 2] (by decide) rfl) ?_⟩
    intro hsub
    refine any_end (by kernel_rfl) (fun w hI => ?_)
    refine rgn (by kernel_rfl) (pu (iv (k0 : Int)) (by kernel_rfl) (seq_c (s_add rfl rfl (by omega) ?_)))
    refine pu (iv ((k0 : Int) + 1)) (by kernel_rfl) (seq_nil ?_)
    exact ⟨rfl, _, (by omega), ⟨k0 + 1, nn0 + 1, g12, c13, cl14, ⟨rfl, rfl, rfl, rfl, rfl, trivial⟩, hI.pickL [3, 4, 1, 2] (by decide) rfl, (by omega), (by rw [take_get hx5, List.filter_append, List.length_append, ← hnn0]; simp [h2]), (r15.to (by rw [take_get hx5, List.filter_append]; simp [h2]) rfl), rfl⟩⟩
   ·intro w hI
    refine ol_c rfl (s_new hI [iv x4.src, iv x4.hr, iv x4.lo, iv x4.hi, iv x4.kn, iv x4.un] 30 (fun b => slv (some b) 1 1) (by kernel_rfl) ?_)
    intro b16 w hI
    refine ⟨_, hI, subk (fun _ h => h.pickL [1, 2] (by decide) rfl) ?_⟩
    intro hsub
    refine any_heavy [1] (by kernel_rfl) rfl (each1 ?_)
    intro w hI
    refine ol_c rfl (s_load1 hI 4 (slv gg0 nn0 cc0) Tryz.isAgg24 rfl rfl rfl ?_)
    refine ⟨_, hI, subk (fun _ h => h.pickL [1, 2] (by decide) rfl) ?_⟩
    intro hsub
    refine any_heavy [8] (by kernel_rfl) rfl (each1 ?_)
    intro w hI
    refine ol_c rfl (s_app hI Tryz.underlying24 (z := .agg #[iv 0, iv 0, iv 0, iv 0, iv 0, iv 0]) (k := 6) (bytes := 48) (by kernel_rfl) rfl rfl 3 rfl rfl hrr0 [iv x4.src, iv x4.hr, iv x4.lo, iv x4.hi, iv x4.kn, iv x4.un] rfl rfl (hI.cells 0 (off := 0) rfl (fun j u h => by rw [Nat.zero_add]; exact h)) (by simp [Value.oneCell']) (by omega) (by omega) ?_)
    intro g17 c18 cl19 w hI r20
    refine ⟨_, hI, subk (fun _ h => h.pickL [1, 2] (by decide) rfl) ?_⟩
    intro hsub
    have r20 : Row 6 g17 (nn0 + 1) c18 cl19 (flat eLd (((pl.loads.take k0).filter (fun x : Ld => decide (x.src ≠ s))) ++ [(⟨x4.src, x4.hr, x4.lo, x4.hi, x4.kn, x4.un⟩ : Ld)])) := r20.snoc _ rfl
    refine alp 9 (.pointer (some ⟨b3, 2, none⟩)) hsub rfl (by kernel_rfl) (fun _ => (by kernel_rfl)) ?_
    refine any_heavy [10] (by kernel_rfl) rfl (each1 ?_)
    intro w hI
    refine ol_c rfl (s_store hI 4 1 [slv g17 (nn0 + 1) c18] Tryz.sizeOf24 rfl rfl rfl rfl rfl (Nat.le_of_ble_eq_true rfl) ?_)
    intro w hI
    refine ⟨_, hI, subk (fun _ h => h.pickL [1, 2] (by decide) rfl) ?_⟩
    intro hsub
    refine any_end (by kernel_rfl) (fun w hI => ?_)
    refine rgn (by kernel_rfl) (pu (iv (k0 : Int)) (by kernel_rfl) (seq_c (s_add rfl rfl (by omega) ?_)))
    refine pu (iv ((k0 : Int) + 1)) (by kernel_rfl) (seq_nil ?_)
    exact ⟨rfl, _, (by omega), ⟨k0 + 1, nn0 + 1, g17, c18, cl19, ⟨rfl, rfl, rfl, rfl, rfl, trivial⟩, hI.pickL [3, 4, 1, 2] (by decide) rfl, (by omega), (by rw [take_get hx5, List.filter_append, List.length_append, ← hnn0]; simp [h2]), (r20.to (by rw [take_get hx5, List.filter_append]; simp [h2]) rfl), rfl⟩⟩
  ·intro h3
   refine seq_nil (wp_condF rfl (wp_skip (rgn (by kernel_rfl) (pu (iv (k0 : Int)) (by kernel_rfl) (seq_c (s_add rfl rfl (by omega) ?_))))))
   refine pu (iv ((k0 : Int) + 1)) (by kernel_rfl) (seq_nil ?_)
   exact ⟨rfl, _, (by omega), ⟨k0 + 1, nn0, gg0, cc0, ccl0, ⟨rfl, rfl, rfl, rfl, rfl, trivial⟩, hI.pickL [0, 1, 2, 3] (by decide) rfl, (by omega), (by rw [take_get hx5, List.filter_append, List.length_append, ← hnn0]; simp [h3]), (hrr0.to (by rw [take_get hx5, List.filter_append]; simp [h3]) rfl), rfl⟩⟩
 ·intro h4
  refine seq_nil (wp_condF rfl (wp_exit ?_))
  refine wp_seq (wp_seq (rgn (by kernel_rfl) (pu (iv 0) (by kernel_rfl) (seq_nil (wp_block ?_)))))
  have hI := hI.nilRow 31
  refine wp_loop (fun m ρ w => ∃ (k1 : Nat) (nn1 : Nat) (gg1 : Option Nat) (cc1 : Nat) (ccl1 : List Value), Agree ρ [(1, iv s), (2, .pointer (some ⟨b1, 0, none⟩)), (4, .pointer (some ⟨b2, 0, none⟩)), (6, .pointer (some ⟨b3, 0, none⟩)), (8, iv (k1 : Int))] ∧ Inv none w0 w [(gg1, blk ccl1 31), (gg0, blk ccl0 30), (some b3, blk [iv pl.lo, iv pl.hi, slv gg0 nn0 cc0, slv gg1 nn1 cc1, .slice none 0 0, iv pl.geese] 28), (some b2, blk [iv 0, iv 0, .slice none 0 0, .slice none 0 0, .slice none 0 0, iv 0] 28), (some b1, blk [iv pl.lo, iv pl.hi, .slice pA1 pn1 pc1, .slice pA2 pn2 pc2, .slice pA3 pn3 pc3, iv pl.geese] 28)] ∧ (k1 ≤ pn2) ∧ (nn1 = ((pl.stands.take k1).filter (fun x : Ld => decide (x.src ≠ s))).length) ∧ (Row 6 gg1 (nn1) cc1 ccl1 (flat eLd (((pl.stands.take k1).filter (fun x : Ld => decide (x.src ≠ s)))))) ∧ m = pn2 - k1) (m := pn2 - 0) ⟨0, 0, none, 0, [], ⟨rfl, rfl, rfl, rfl, rfl, trivial⟩, hI.pickL [0, 1, 2, 3, 4] (by decide) rfl, (by omega), rfl, (Row.nil_ 6), rfl⟩ ?_
  rintro m ρ w ⟨k1, nn1, gg1, cc1, ccl1, hag, hI, hk1, hnn1, hrr1, hm⟩
  obtain ⟨ρ, rfl⟩ := hag.form; clear hag
  have hlen := Nat.le_trans (List.length_filter_le (fun x : Ld => decide (x.src ≠ s)) (pl.stands.take k1)) (List.length_take_le k1 _)
  refine wp_seq (wp_seq (rgn (by kernel_rfl) (pu (iv (k1 : Int)) (by kernel_rfl) (pu (.pointer (some ⟨b1, 3, none⟩)) (by kernel_rfl) (seq_c (s_load1 hI 4 (.slice pA2 pn2 pc2) Tryz.isAgg25 rfl rfl rfl ?_))))))
  refine pu (iv ((pn2 : Nat) : Int)) (by kernel_rfl) (seq_c (s_lss rfl rfl ?_ ?_))
  ·intro h5
   refine seq_nil (wp_condT rfl (wp_skip (wp_seq (wp_block ?_))))
   refine wp_seq (rgn (by kernel_rfl) (pu (.pointer (some ⟨b1, 3, none⟩)) (by kernel_rfl) (seq_c (s_load1 hI 4 (.slice pA2 pn2 pc2) Tryz.isAgg25 rfl rfl rfl ?_))))
   refine pu (iv (k1 : Int)) (by kernel_rfl) ?_
   obtain ⟨x21, hx22⟩ := get_lt (l := pl.stands) (i := k1) (by omega)
   obtain ⟨b23, o24, hA25, hb26, he27⟩ := hP.c2.at_ eLd_len (by decide) hx22
   refine seq_c (s_indexA k1 Tryz.underlying25 Tryz.sizeOf31 rfl hA25 rfl rfl (by omega) ?_)
   refine pu (.pointer (some ⟨b23, o24 + k1 * 6, none⟩)) (by kernel_rfl) (seq_c (s_loadB1 hI (iv x21.src) Tryz.isAgg3 rfl hb26 (by simp) (he27 0 _ rfl) ?_))
   refine pu (iv s) (by kernel_rfl) (seq_c (s_neq rfl rfl ?_ ?_))
   ·intro h6
    refine seq_nil (wp_condT rfl ?_)
    replace hI := hI.pickL [1, 3, 4, 0, 2] (by decide) rfl
    refine wp_drawn2 hI [0, 1, 2] (by decide) rfl (by kernel_rfl) (by kernel_rfl) ?_
    intro hsub
    refine alp 0 (.pointer (some ⟨b3, 3, none⟩)) hsub rfl (by kernel_rfl) (fun _ => (by kernel_rfl)) ?_
    refine alp 2 (.pointer (some ⟨b1, 3, none⟩)) hsub rfl (by kernel_rfl) (fun _ => (by kernel_rfl)) ?_
    refine al_light 3 (.slice pA2 pn2 pc2) hsub rfl (by kernel_rfl) (fun w hI => s_load1 hI 2 (.slice pA2 pn2 pc2) Tryz.isAgg25 rfl rfl rfl ⟨rfl, Below.refl _ _⟩) ?_
    refine alp 4 (iv (k1 : Int)) hsub rfl (by kernel_rfl) (fun _ => (by kernel_rfl)) ?_
    refine al_light 5 (.pointer (some ⟨b23, o24 + k1 * 6, none⟩)) hsub rfl (by kernel_rfl) (fun w hI => s_indexA k1 Tryz.underlying25 Tryz.sizeOf31 rfl hA25 rfl rfl (by omega) ⟨rfl, Below.refl _ _⟩) ?_
    refine al_light 6 (.agg #[iv x21.src, iv x21.hr, iv x21.lo, iv x21.hi, iv x21.kn, iv x21.un]) hsub rfl (by kernel_rfl) (fun w hI => s_loadBK hI [iv x21.src, iv x21.hr, iv x21.lo, iv x21.hi, iv x21.kn, iv x21.un] Tryz.isAgg31 Tryz.sizeOf31 rfl rfl hb26 (by simp) he27 ⟨rfl, Below.refl _ _⟩) ?_
    refine any_heavy [1, 7] (by kernel_rfl) rfl (each2 ?_ ?_)
    ·intro w hI
     refine ol_c rfl (s_load1 hI 4 (slv gg1 nn1 cc1) Tryz.isAgg25 rfl rfl rfl ?_)
     refine ⟨_, hI, subk (fun _ h => h.pickL [0, 1, 2] (by decide) rfl) ?_⟩
     intro hsub
     refine any_heavy [7] (by kernel_rfl) rfl (each1 ?_)
     intro w hI
     refine ol_c rfl (s_new hI [iv x21.src, iv x21.hr, iv x21.lo, iv x21.hi, iv x21.kn, iv x21.un] 31 (fun b => slv (some b) 1 1) (by kernel_rfl) ?_)
     intro b28 w hI
     refine ⟨_, hI, subk (fun _ h => h.pickL [1, 2, 3] (by decide) rfl) ?_⟩
     intro hsub
     refine any_heavy [8] (by kernel_rfl) rfl (each1 ?_)
     intro w hI
     refine ol_c rfl (s_app hI Tryz.underlying25 (z := .agg #[iv 0, iv 0, iv 0, iv 0, iv 0, iv 0]) (k := 6) (bytes := 48) (by kernel_rfl) rfl rfl 4 rfl rfl hrr1 [iv x21.src, iv x21.hr, iv x21.lo, iv x21.hi, iv x21.kn, iv x21.un] rfl rfl (hI.cells 0 (off := 0) rfl (fun j u h => by rw [Nat.zero_add]; exact h)) (by simp [Value.oneCell']) (by omega) (by omega) ?_)
     intro g29 c30 cl31 w hI r32
     refine ⟨_, hI, subk (fun _ h => h.pickL [1, 2, 3] (by decide) rfl) ?_⟩
     intro hsub
     have r32 : Row 6 g29 (nn1 + 1) c30 cl31 (flat eLd (((pl.stands.take k1).filter (fun x : Ld => decide (x.src ≠ s))) ++ [(⟨x21.src, x21.hr, x21.lo, x21.hi, x21.kn, x21.un⟩ : Ld)])) := r32.snoc _ rfl
     refine alp 9 (.pointer (some ⟨b3, 3, none⟩)) hsub rfl (by kernel_rfl) (fun _ => (by kernel_rfl)) ?_
     refine any_heavy [10] (by kernel_rfl) rfl (each1 ?_)
     intro w hI
     refine ol_c rfl (s_store hI 5 1 [slv g29 (nn1 + 1) c30] Tryz.sizeOf25 rfl rfl rfl rfl rfl (Nat.le_of_ble_eq_true rfl) ?_)
     intro w hI
     refine ⟨_, hI, subk (fun _ h => h.pickL [1, 2, 3] (by decide) rfl) ?_⟩
     intro hsub
     refine any_end (by kernel_rfl) (fun w hI => ?_)
     refine rgn (by kernel_rfl) (pu (iv (k1 : Int)) (by kernel_rfl) (seq_c (s_add rfl rfl (by omega) ?_)))
     refine pu (iv ((k1 : Int) + 1)) (by kernel_rfl) (seq_nil ?_)
     exact ⟨rfl, _, (by omega), ⟨k1 + 1, nn1 + 1, g29, c30, cl31, ⟨rfl, rfl, rfl, rfl, rfl, trivial⟩, hI.pickL [4, 1, 5, 2, 3] (by decide) rfl, (by omega), (by rw [take_get hx22, List.filter_append, List.length_append, ← hnn1]; simp [h6]), (r32.to (by rw [take_get hx22, List.filter_append]; simp [h6]) rfl), rfl⟩⟩
    ·intro w hI
     refine ol_c rfl (s_new hI [iv x21.src, iv x21.hr, iv x21.lo, iv x21.hi, iv x21.kn, iv x21.un] 31 (fun b => slv (some b) 1 1) (by kernel_rfl) ?_)
     intro b33 w hI
     refine ⟨_, hI, subk (fun _ h => h.pickL [1, 2, 3] (by decide) rfl) ?_⟩
     intro hsub
     refine any_heavy [1] (by kernel_rfl) rfl (each1 ?_)
     intro w hI
     refine ol_c rfl (s_load1 hI 5 (slv gg1 nn1 cc1) Tryz.isAgg25 rfl rfl rfl ?_)
     refine ⟨_, hI, subk (fun _ h => h.pickL [1, 2, 3] (by decide) rfl) ?_⟩
     intro hsub
     refine any_heavy [8] (by kernel_rfl) rfl (each1 ?_)
     intro w hI
     refine ol_c rfl (s_app hI Tryz.underlying25 (z := .agg #[iv 0, iv 0, iv 0, iv 0, iv 0, iv 0]) (k := 6) (bytes := 48) (by kernel_rfl) rfl rfl 4 rfl rfl hrr1 [iv x21.src, iv x21.hr, iv x21.lo, iv x21.hi, iv x21.kn, iv x21.un] rfl rfl (hI.cells 0 (off := 0) rfl (fun j u h => by rw [Nat.zero_add]; exact h)) (by simp [Value.oneCell']) (by omega) (by omega) ?_)
     intro g34 c35 cl36 w hI r37
     refine ⟨_, hI, subk (fun _ h => h.pickL [1, 2, 3] (by decide) rfl) ?_⟩
     intro hsub
     have r37 : Row 6 g34 (nn1 + 1) c35 cl36 (flat eLd (((pl.stands.take k1).filter (fun x : Ld => decide (x.src ≠ s))) ++ [(⟨x21.src, x21.hr, x21.lo, x21.hi, x21.kn, x21.un⟩ : Ld)])) := r37.snoc _ rfl
     refine alp 9 (.pointer (some ⟨b3, 3, none⟩)) hsub rfl (by kernel_rfl) (fun _ => (by kernel_rfl)) ?_
     refine any_heavy [10] (by kernel_rfl) rfl (each1 ?_)
     intro w hI
     refine ol_c rfl (s_store hI 5 1 [slv g34 (nn1 + 1) c35] Tryz.sizeOf25 rfl rfl rfl rfl rfl (Nat.le_of_ble_eq_true rfl) ?_)
     intro w hI
     refine ⟨_, hI, subk (fun _ h => h.pickL [1, 2, 3] (by decide) rfl) ?_⟩
     intro hsub
     refine any_end (by kernel_rfl) (fun w hI => ?_)
     refine rgn (by kernel_rfl) (pu (iv (k1 : Int)) (by kernel_rfl) (seq_c (s_add rfl rfl (by omega) ?_)))
     refine pu (iv ((k1 : Int) + 1)) (by kernel_rfl) (seq_nil ?_)
     exact ⟨rfl, _, (by omega), ⟨k1 + 1, nn1 + 1, g34, c35, cl36, ⟨rfl, rfl, rfl, rfl, rfl, trivial⟩, hI.pickL [4, 1, 5, 2, 3] (by decide) rfl, (by omega), (by rw [take_get hx22, List.filter_append, List.length_append, ← hnn1]; simp [h6]), (r37.to (by rw [take_get hx22, List.filter_append]; simp [h6]) rfl), rfl⟩⟩
   ·intro h7
    refine seq_nil (wp_condF rfl (wp_skip (rgn (by kernel_rfl) (pu (iv (k1 : Int)) (by kernel_rfl) (seq_c (s_add rfl rfl (by omega) ?_))))))
    refine pu (iv ((k1 : Int) + 1)) (by kernel_rfl) (seq_nil ?_)
    exact ⟨rfl, _, (by omega), ⟨k1 + 1, nn1, gg1, cc1, ccl1, ⟨rfl, rfl, rfl, rfl, rfl, trivial⟩, hI.pickL [0, 1, 2, 3, 4] (by decide) rfl, (by omega), (by rw [take_get hx22, List.filter_append, List.length_append, ← hnn1]; simp [h7]), (hrr1.to (by rw [take_get hx22, List.filter_append]; simp [h7]) rfl), rfl⟩⟩
  ·intro h8
   refine seq_nil (wp_condF rfl (wp_exit ?_))
   refine wp_seq (wp_seq (rgn (by kernel_rfl) (pu (iv 0) (by kernel_rfl) (seq_nil (wp_block ?_)))))
   have hI := hI.nilRow 33
   refine wp_loop (fun m ρ w => ∃ (k2 : Nat) (nn2 : Nat) (gg2 : Option Nat) (cc2 : Nat) (ccl2 : List Value), Agree ρ [(1, iv s), (2, .pointer (some ⟨b1, 0, none⟩)), (4, .pointer (some ⟨b2, 0, none⟩)), (6, .pointer (some ⟨b3, 0, none⟩)), (9, iv (k2 : Int))] ∧ Inv none w0 w [(gg2, blk ccl2 33), (gg1, blk ccl1 31), (gg0, blk ccl0 30), (some b3, blk [iv pl.lo, iv pl.hi, slv gg0 nn0 cc0, slv gg1 nn1 cc1, slv gg2 nn2 cc2, iv pl.geese] 28), (some b2, blk [iv 0, iv 0, .slice none 0 0, .slice none 0 0, .slice none 0 0, iv 0] 28), (some b1, blk [iv pl.lo, iv pl.hi, .slice pA1 pn1 pc1, .slice pA2 pn2 pc2, .slice pA3 pn3 pc3, iv pl.geese] 28)] ∧ (k2 ≤ pn3) ∧ (nn2 = ((pl.spells.take k2).filter (fun x : Sp => decide (x.src ≠ s))).length) ∧ (Row 6 gg2 (nn2) cc2 ccl2 (flat eSp (((pl.spells.take k2).filter (fun x : Sp => decide (x.src ≠ s)))))) ∧ m = pn3 - k2) (m := pn3 - 0) ⟨0, 0, none, 0, [], ⟨rfl, rfl, rfl, rfl, rfl, trivial⟩, hI.pickL [0, 1, 2, 3, 4, 5] (by decide) rfl, (by omega), rfl, (Row.nil_ 6), rfl⟩ ?_
   rintro m ρ w ⟨k2, nn2, gg2, cc2, ccl2, hag, hI, hk2, hnn2, hrr2, hm⟩
   obtain ⟨ρ, rfl⟩ := hag.form; clear hag
   have hlen := Nat.le_trans (List.length_filter_le (fun x : Sp => decide (x.src ≠ s)) (pl.spells.take k2)) (List.length_take_le k2 _)
   refine wp_seq (wp_seq (rgn (by kernel_rfl) (pu (iv (k2 : Int)) (by kernel_rfl) (pu (.pointer (some ⟨b1, 4, none⟩)) (by kernel_rfl) (seq_c (s_load1 hI 5 (.slice pA3 pn3 pc3) Tryz.isAgg26 rfl rfl rfl ?_))))))
   refine pu (iv ((pn3 : Nat) : Int)) (by kernel_rfl) (seq_c (s_lss rfl rfl ?_ ?_))
   ·intro h9
    refine seq_nil (wp_condT rfl (wp_skip (wp_seq (wp_block ?_))))
    refine wp_seq (rgn (by kernel_rfl) (pu (.pointer (some ⟨b1, 4, none⟩)) (by kernel_rfl) (seq_c (s_load1 hI 5 (.slice pA3 pn3 pc3) Tryz.isAgg26 rfl rfl rfl ?_))))
    refine pu (iv (k2 : Int)) (by kernel_rfl) ?_
    obtain ⟨x38, hx39⟩ := get_lt (l := pl.spells) (i := k2) (by omega)
    obtain ⟨b40, o41, hA42, hb43, he44⟩ := hP.c3.at_ eSp_len (by decide) hx39
    refine seq_c (s_indexA k2 Tryz.underlying26 Tryz.sizeOf33 rfl hA42 rfl rfl (by omega) ?_)
    refine pu (.pointer (some ⟨b40, o41 + k2 * 6, none⟩)) (by kernel_rfl) (seq_c (s_loadB1 hI (iv x38.src) Tryz.isAgg3 rfl hb43 (by simp) (he44 0 _ rfl) ?_))
    refine pu (iv s) (by kernel_rfl) (seq_c (s_neq rfl rfl ?_ ?_))
    ·intro h10
     refine seq_nil (wp_condT rfl ?_)
     replace hI := hI.pickL [1, 2, 4, 5, 0, 3] (by decide) rfl
     refine wp_drawn2 hI [0, 1, 2, 3] (by decide) rfl (by kernel_rfl) (by kernel_rfl) ?_
     intro hsub
     refine alp 0 (.pointer (some ⟨b3, 4, none⟩)) hsub rfl (by kernel_rfl) (fun _ => (by kernel_rfl)) ?_
     refine alp 2 (.pointer (some ⟨b1, 4, none⟩)) hsub rfl (by kernel_rfl) (fun _ => (by kernel_rfl)) ?_
     refine al_light 3 (.slice pA3 pn3 pc3) hsub rfl (by kernel_rfl) (fun w hI => s_load1 hI 3 (.slice pA3 pn3 pc3) Tryz.isAgg26 rfl rfl rfl ⟨rfl, Below.refl _ _⟩) ?_
     refine alp 4 (iv (k2 : Int)) hsub rfl (by kernel_rfl) (fun _ => (by kernel_rfl)) ?_
     refine al_light 5 (.pointer (some ⟨b40, o41 + k2 * 6, none⟩)) hsub rfl (by kernel_rfl) (fun w hI => s_indexA k2 Tryz.underlying26 Tryz.sizeOf33 rfl hA42 rfl rfl (by omega) ⟨rfl, Below.refl _ _⟩) ?_
     refine al_light 6 (.agg #[iv x38.src, iv x38.kd, iv x38.fr, iv x38.to, iv x38.kn, iv x38.un]) hsub rfl (by kernel_rfl) (fun w hI => s_loadBK hI [iv x38.src, iv x38.kd, iv x38.fr, iv x38.to, iv x38.kn, iv x38.un] Tryz.isAgg33 Tryz.sizeOf33 rfl rfl hb43 (by simp) he44 ⟨rfl, Below.refl _ _⟩) ?_
     refine any_heavy [1, 7] (by kernel_rfl) rfl (each2 ?_ ?_)
     ·intro w hI
      refine ol_c rfl (s_load1 hI 5 (slv gg2 nn2 cc2) Tryz.isAgg26 rfl rfl rfl ?_)
      refine ⟨_, hI, subk (fun _ h => h.pickL [0, 1, 2, 3] (by decide) rfl) ?_⟩
      intro hsub
      refine any_heavy [7] (by kernel_rfl) rfl (each1 ?_)
      intro w hI
      refine ol_c rfl (s_new hI [iv x38.src, iv x38.kd, iv x38.fr, iv x38.to, iv x38.kn, iv x38.un] 33 (fun b => slv (some b) 1 1) (by kernel_rfl) ?_)
      intro b45 w hI
      refine ⟨_, hI, subk (fun _ h => h.pickL [1, 2, 3, 4] (by decide) rfl) ?_⟩
      intro hsub
      refine any_heavy [8] (by kernel_rfl) rfl (each1 ?_)
      intro w hI
      refine ol_c rfl (s_app hI Tryz.underlying26 (z := .agg #[iv 0, iv 0, iv 0, iv 0, iv 0, iv 0]) (k := 6) (bytes := 48) (by kernel_rfl) rfl rfl 5 rfl rfl hrr2 [iv x38.src, iv x38.kd, iv x38.fr, iv x38.to, iv x38.kn, iv x38.un] rfl rfl (hI.cells 0 (off := 0) rfl (fun j u h => by rw [Nat.zero_add]; exact h)) (by simp [Value.oneCell']) (by omega) (by omega) ?_)
      intro g46 c47 cl48 w hI r49
      refine ⟨_, hI, subk (fun _ h => h.pickL [1, 2, 3, 4] (by decide) rfl) ?_⟩
      intro hsub
      have r49 : Row 6 g46 (nn2 + 1) c47 cl48 (flat eSp (((pl.spells.take k2).filter (fun x : Sp => decide (x.src ≠ s))) ++ [(⟨x38.src, x38.kd, x38.fr, x38.to, x38.kn, x38.un⟩ : Sp)])) := r49.snoc _ rfl
      refine alp 9 (.pointer (some ⟨b3, 4, none⟩)) hsub rfl (by kernel_rfl) (fun _ => (by kernel_rfl)) ?_
      refine any_heavy [10] (by kernel_rfl) rfl (each1 ?_)
      intro w hI
      refine ol_c rfl (s_store hI 6 1 [slv g46 (nn2 + 1) c47] Tryz.sizeOf26 rfl rfl rfl rfl rfl (Nat.le_of_ble_eq_true rfl) ?_)
      intro w hI
      refine ⟨_, hI, subk (fun _ h => h.pickL [1, 2, 3, 4] (by decide) rfl) ?_⟩
      intro hsub
      refine any_end (by kernel_rfl) (fun w hI => ?_)
      refine rgn (by kernel_rfl) (pu (iv (k2 : Int)) (by kernel_rfl) (seq_c (s_add rfl rfl (by omega) ?_)))
      refine pu (iv ((k2 : Int) + 1)) (by kernel_rfl) (seq_nil ?_)
      exact ⟨rfl, _, (by omega), ⟨k2 + 1, nn2 + 1, g46, c47, cl48, ⟨rfl, rfl, rfl, rfl, rfl, trivial⟩, hI.pickL [5, 1, 2, 6, 3, 4] (by decide) rfl, (by omega), (by rw [take_get hx39, List.filter_append, List.length_append, ← hnn2]; simp [h10]), (r49.to (by rw [take_get hx39, List.filter_append]; simp [h10]) rfl), rfl⟩⟩
     ·intro w hI
      refine ol_c rfl (s_new hI [iv x38.src, iv x38.kd, iv x38.fr, iv x38.to, iv x38.kn, iv x38.un] 33 (fun b => slv (some b) 1 1) (by kernel_rfl) ?_)
      intro b50 w hI
      refine ⟨_, hI, subk (fun _ h => h.pickL [1, 2, 3, 4] (by decide) rfl) ?_⟩
      intro hsub
      refine any_heavy [1] (by kernel_rfl) rfl (each1 ?_)
      intro w hI
      refine ol_c rfl (s_load1 hI 6 (slv gg2 nn2 cc2) Tryz.isAgg26 rfl rfl rfl ?_)
      refine ⟨_, hI, subk (fun _ h => h.pickL [1, 2, 3, 4] (by decide) rfl) ?_⟩
      intro hsub
      refine any_heavy [8] (by kernel_rfl) rfl (each1 ?_)
      intro w hI
      refine ol_c rfl (s_app hI Tryz.underlying26 (z := .agg #[iv 0, iv 0, iv 0, iv 0, iv 0, iv 0]) (k := 6) (bytes := 48) (by kernel_rfl) rfl rfl 5 rfl rfl hrr2 [iv x38.src, iv x38.kd, iv x38.fr, iv x38.to, iv x38.kn, iv x38.un] rfl rfl (hI.cells 0 (off := 0) rfl (fun j u h => by rw [Nat.zero_add]; exact h)) (by simp [Value.oneCell']) (by omega) (by omega) ?_)
      intro g51 c52 cl53 w hI r54
      refine ⟨_, hI, subk (fun _ h => h.pickL [1, 2, 3, 4] (by decide) rfl) ?_⟩
      intro hsub
      have r54 : Row 6 g51 (nn2 + 1) c52 cl53 (flat eSp (((pl.spells.take k2).filter (fun x : Sp => decide (x.src ≠ s))) ++ [(⟨x38.src, x38.kd, x38.fr, x38.to, x38.kn, x38.un⟩ : Sp)])) := r54.snoc _ rfl
      refine alp 9 (.pointer (some ⟨b3, 4, none⟩)) hsub rfl (by kernel_rfl) (fun _ => (by kernel_rfl)) ?_
      refine any_heavy [10] (by kernel_rfl) rfl (each1 ?_)
      intro w hI
      refine ol_c rfl (s_store hI 6 1 [slv g51 (nn2 + 1) c52] Tryz.sizeOf26 rfl rfl rfl rfl rfl (Nat.le_of_ble_eq_true rfl) ?_)
      intro w hI
      refine ⟨_, hI, subk (fun _ h => h.pickL [1, 2, 3, 4] (by decide) rfl) ?_⟩
      intro hsub
      refine any_end (by kernel_rfl) (fun w hI => ?_)
      refine rgn (by kernel_rfl) (pu (iv (k2 : Int)) (by kernel_rfl) (seq_c (s_add rfl rfl (by omega) ?_)))
      refine pu (iv ((k2 : Int) + 1)) (by kernel_rfl) (seq_nil ?_)
      exact ⟨rfl, _, (by omega), ⟨k2 + 1, nn2 + 1, g51, c52, cl53, ⟨rfl, rfl, rfl, rfl, rfl, trivial⟩, hI.pickL [5, 1, 2, 6, 3, 4] (by decide) rfl, (by omega), (by rw [take_get hx39, List.filter_append, List.length_append, ← hnn2]; simp [h10]), (r54.to (by rw [take_get hx39, List.filter_append]; simp [h10]) rfl), rfl⟩⟩
    ·intro h11
     refine seq_nil (wp_condF rfl (wp_skip (rgn (by kernel_rfl) (pu (iv (k2 : Int)) (by kernel_rfl) (seq_c (s_add rfl rfl (by omega) ?_))))))
     refine pu (iv ((k2 : Int) + 1)) (by kernel_rfl) (seq_nil ?_)
     exact ⟨rfl, _, (by omega), ⟨k2 + 1, nn2, gg2, cc2, ccl2, ⟨rfl, rfl, rfl, rfl, rfl, trivial⟩, hI.pickL [0, 1, 2, 3, 4, 5] (by decide) rfl, (by omega), (by rw [take_get hx39, List.filter_append, List.length_append, ← hnn2]; simp [h11]), (hrr2.to (by rw [take_get hx39, List.filter_append]; simp [h11]) rfl), rfl⟩⟩
   ·intro h12
    refine seq_nil (wp_condF rfl (wp_exit ?_))
    refine wp_seq ?_
    replace hI := hI.pickL [0, 1, 2, 3, 5, 4] (by decide) rfl
    refine wp_drawn2 hI [0, 1, 2, 3, 4] (by decide) rfl (by kernel_rfl) (by kernel_rfl) ?_
    intro hsub
    refine al_light 0 (.agg #[iv pl.lo, iv pl.hi, slv gg0 nn0 cc0, slv gg1 nn1 cc1, slv gg2 nn2 cc2, iv pl.geese]) hsub rfl (by kernel_rfl) (fun w hI => s_loadK hI 3 6 [iv pl.lo, iv pl.hi, slv gg0 nn0 cc0, slv gg1 nn1 cc1, slv gg2 nn2 cc2, iv pl.geese] Tryz.isAgg28 Tryz.sizeOf28 rfl rfl rfl rfl ⟨rfl, Below.refl _ _⟩) ?_
    refine al_light 1 (.agg #[iv pl.lo, iv pl.hi, .slice pA1 pn1 pc1, .slice pA2 pn2 pc2, .slice pA3 pn3 pc3, iv pl.geese]) hsub rfl (by kernel_rfl) (fun w hI => s_loadK hI 4 6 [iv pl.lo, iv pl.hi, .slice pA1 pn1 pc1, .slice pA2 pn2 pc2, .slice pA3 pn3 pc3, iv pl.geese] Tryz.isAgg28 Tryz.sizeOf28 rfl rfl rfl rfl ⟨rfl, Below.refl _ _⟩) ?_
    refine alp 3 (iv s) hsub rfl (by kernel_rfl) (fun _ => (by kernel_rfl)) ?_
    refine any_heavy [2] (by kernel_rfl) rfl (each1 ?_)
    intro w hI
    refine ol_c rfl (s_callNew hI 64 [.agg #[iv pl.lo, iv pl.hi, .slice pA1 pn1 pc1, .slice pA2 pn2 pc2, .slice pA3 pn3 pc3, iv pl.geese]] (by kernel_rfl) (sources_c _ pl pA1 pn1 pc1 pA2 pn2 pc2 pA3 pn3 pc3 (hP.inv0 hI) hS) ?_)
    intro g55 c56 cl57 w hI r58
    refine ⟨_, hI, subk (fun _ h => h.pickL [1, 2, 3, 4, 5] (by decide) rfl) ?_⟩
    intro hsub
    have r58 : Row 1 g55 (srcsOf pl).length c56 cl57 (flat eInt (srcsOf pl)) := r58
    refine any_heavy [4] (by kernel_rfl) rfl (each1 ?_)
    intro w hI
    refine ol_c rfl (s_callv hI 59 [slv g55 (srcsOf pl).length c56, iv s] (.bool (decide (s ∈ (srcsOf pl)))) (by kernel_rfl) (Has_c _ (srcsOf pl) (g55.map fun b => ⟨b, 0, none⟩) (srcsOf pl).length c56 s (r58.n_eq eInt_len (by decide)) (by omega) (hI.rowCells 0 rfl r58)) ?_)
    intro w hI
    refine ⟨_, hI, subk (fun _ h => h.pickL [1, 2, 3, 4, 5] (by decide) rfl) ?_⟩
    intro hsub
    refine any_heavy [5] (by kernel_rfl) rfl (each1 ?_)
    intro w hI
    refine ol_c rfl (s_store hI 6 6 [iv pl.lo, iv pl.hi, slv gg0 nn0 cc0, slv gg1 nn1 cc1, slv gg2 nn2 cc2, iv pl.geese] Tryz.sizeOf28 rfl rfl rfl rfl rfl (Nat.le_of_ble_eq_true rfl) ?_)
    intro w hI
    refine ⟨_, hI, subk (fun _ h => h.pickL [1, 2, 3, 4, 5] (by decide) rfl) ?_⟩
    intro hsub
    refine alp 6 (.bool (decide (s ∈ (srcsOf pl)))) hsub rfl (by kernel_rfl) (fun _ => (by kernel_rfl)) ?_
    refine any_end (by kernel_rfl) (fun w hI => ?_)
    refine wp_ret ?_
    have t0 : pl.loads.take k0 = pl.loads := List.take_of_length_le (by omega)
    have t1 : pl.stands.take k1 = pl.stands := List.take_of_length_le (by omega)
    have t2 : pl.spells.take k2 = pl.spells := List.take_of_length_le (by omega)
    exact ⟨.tuple #[.agg #[iv pl.lo, iv pl.hi, slv gg0 nn0 cc0, slv gg1 nn1 cc1, slv gg2 nn2 cc2, iv pl.geese], .bool (decide (s ∈ (srcsOf pl)))], Ret.ct rfl rfl (run_loadK hI 6 6 [iv pl.lo, iv pl.hi, slv gg0 nn0 cc0, slv gg1 nn1 cc1, slv gg2 nn2 cc2, iv pl.geese] Tryz.isAgg28 Tryz.sizeOf28 rfl rfl rfl) rfl, ⟨.agg #[iv pl.lo, iv pl.hi, slv gg0 nn0 cc0, slv gg1 nn1 cc1, slv gg2 nn2 cc2, iv pl.geese], rfl, gg0, cc0, ccl0, gg1, cc1, ccl1, gg2, cc2, ccl2, (by simp only [hnn0, hnn1, hnn2, t0, t1, t2]; rfl), hI.pickL [3, 2, 1] (by decide) rfl, (hrr0.to (by rw [t0]; rfl) (by rw [hnn0, t0]; rfl)), (hrr1.to (by rw [t1]; rfl) (by rw [hnn1, t1]; rfl)), (hrr2.to (by rw [t2]; rfl) (by rw [hnn2, t2]; rfl))⟩⟩

theorem ref_no {p : Pl} (h : ¬ RefOk p) : codeI (plotB p) 13 = 13 := by
  have : plotB p = false := by
    cases e : plotB p with
    | false => rfl
    | true => exact absurd ((plotB_iff p).1 e) h
  rw [this]; rfl
theorem ref_yes {p : Pl} (h : RefOk p) : codeI (plotB p) 13 = 0 := by rw [(plotB_iff p).2 h]; rfl
theorem nodup_at {l : List Int} {k : Nat} {x : Int} (hx : l[k]? = some x) (h : l.Nodup) : ¬ x ∈ l.take k := by
  intro hm
  have hk := lt_of_get hx
  have e : l = l.take k ++ l.drop k := (List.take_append_drop k l).symm
  rw [e, drop_get hx, List.nodup_append] at h
  exact h.2.2 x hm x (List.mem_cons_self) rfl
theorem nodup_step {l : List Int} {k : Nat} {x : Int} (hx : l[k]? = some x) (h : (l.take k).Nodup) (hn : decide (x ∈ l.take k) = false) : (l.take (k + 1)).Nodup := by
  rw [decide_eq_false_iff_not] at hn
  rw [take_get hx, List.nodup_append]
  refine ⟨h, by simp, fun a ha b hb => ?_⟩
  simp only [List.mem_singleton] at hb
  rw [hb]; rintro rfl; exact hn ha
def Q1 {α : Type} (f p : α → Int) (l : List α) (i : Nat) (y : α) : Prop := p y = 0 ∧ ∀ x, 0 < i → l[i - 1]? = some x → f x < f y
theorem q1_ok {α : Type} {f p : α → Int} {l : List α} {k : Nat} (h : ∀ i y, i < k → l[i]? = some y → Q1 f p l i y) (hk : l.length ≤ k) : (∀ x ∈ l, p x = 0) ∧ Adj f l := by
  refine ⟨fun x hx => ?_, fun i x y hx hy => ?_⟩
  · obtain ⟨i, hi, he⟩ := List.getElem_of_mem hx
    exact (h i x (by omega) (by rw [List.getElem?_eq_getElem hi, he])).1
  · exact (h (i + 1) y (by have := lt_of_get hy; omega) hy).2 x (by omega) (by simpa using hx)

set_option maxHeartbeats 800000 in
theorem RefCheck_c (w0 : World) (pl : Pl) (pA1 : Option Addr) (pn1 pc1 : Nat) (pA2 : Option Addr) (pn2 pc2 : Nat) (pA3 : Option Addr) (pn3 pc3 : Nat) (hP : PlotIn w0 pl pA1 pn1 pA2 pn2 pA3 pn3) : Does Tryz.prog 23 [.agg #[.int .i64 pl.lo, .int .i64 pl.hi, .slice pA1 pn1 pc1, .slice pA2 pn2 pc2, .slice pA3 pn3 pc3, .int .i64 pl.geese]] w0 fun v w => v = .int .i64 (codeI (plotB pl) 13) ∧ Below w0.heap.size w0 w := by
 have hm1 := hP.m1; have hm2 := hP.m2; have hm3 := hP.m3
 refine calls_of (n := 154) Tryz.func23 rfl Tryz.ntmps23 rfl ?_
 have hI := Inv.start w0
 refine wp_seq (rgn (by kernel_rfl) (seq_c (s_boxI hI [iv pl.lo, iv pl.hi, .slice pA1 pn1 pc1, .slice pA2 pn2 pc2, .slice pA3 pn3 pc3, iv pl.geese] rfl ?_)))
 intro b1 w hI
 refine pu (iv 0) (by kernel_rfl) (seq_nil (wp_seq (wp_seq (rgn (by kernel_rfl) (pu (.pointer (some ⟨b1, 0, none⟩)) (by kernel_rfl) (seq_c (s_loadK hI 0 2 [iv pl.lo, iv pl.hi] Tryz.isAgg23 Tryz.sizeOf23 rfl rfl rfl rfl ?_)))))))
 refine seq_c (s_callb hI 79 [.agg #[iv pl.lo, iv pl.hi]] (areSheavesB pl.lo pl.hi) (by kernel_rfl) (refAreSheaves_c pl.lo pl.hi _) ?_ ?_)
 ·intro h1 w hI
  refine pu (.bool false) (by kernel_rfl) (pu (.bool false) (by kernel_rfl) (puo (.pointer (some ⟨b1, 5, none⟩)) ⟨(by kernel_rfl), (by kernel_rfl)⟩ (seq_on (by kernel_rfl) (s_load1 hI 0 (iv pl.geese) Tryz.isAgg3 rfl rfl rfl ?_))))
  refine seq_on (by kernel_rfl) (s_callb hI 80 [iv pl.geese, iv 0, iv 60] (inB pl.geese 0 60) (by kernel_rfl) (In_c pl.geese 0 60 _) ?_ ?_)
  ·intro h2 w hI
   refine puo (.bool false) ⟨(by kernel_rfl), (by kernel_rfl)⟩ (pu (.bool false) (by kernel_rfl) (pu (.bool false) (by kernel_rfl) (puo (.pointer (some ⟨b1, 2, none⟩)) ⟨(by kernel_rfl), (by kernel_rfl)⟩ (seq_on (by kernel_rfl) (s_load1 hI 0 (.slice pA1 pn1 pc1) Tryz.isAgg24 rfl rfl rfl ?_)))))
   refine puo (iv ((pn1 : Nat) : Int)) ⟨(by kernel_rfl), (by kernel_rfl)⟩ (seq_on (by kernel_rfl) (s_gtr rfl rfl ?_ ?_))
   ·intro h3
    refine pu (.bool true) (by kernel_rfl) (pu (.bool true) (by kernel_rfl) (of_ (by kernel_rfl) (of_ (by kernel_rfl) (of_ (by kernel_rfl) (of_ (by kernel_rfl) (pu (.bool true) (by kernel_rfl) (pu (.bool true) (by kernel_rfl) (of_ (by kernel_rfl) (of_ (by kernel_rfl) ?_)))))))))
    refine of_ (by kernel_rfl) (of_ (by kernel_rfl) (pu (.bool true) (by kernel_rfl) (seq_nil (wp_condT rfl (wp_seq (rgn (by kernel_rfl) (pu (iv 13) (by kernel_rfl) (seq_nil (wp_ret ?_)))))))))
    exact ⟨iv 13, Ret.r1 rfl rfl, ⟨by rw [ref_no (fun h => by have q1 := h.sown; have q2 := h.g0; have q3 := h.g1; have q4 := h.l1; have q5 := h.l2; have q6 := h.l3; first | omega | (simp_all [inB]; done) | (simp_all [inB]; omega))], hI.below⟩⟩
   ·intro h4
    refine pu (.bool false) (by kernel_rfl) (pu (.bool false) (by kernel_rfl) (puo (.pointer (some ⟨b1, 3, none⟩)) ⟨(by kernel_rfl), (by kernel_rfl)⟩ (seq_on (by kernel_rfl) (s_load1 hI 0 (.slice pA2 pn2 pc2) Tryz.isAgg25 rfl rfl rfl ?_))))
    refine puo (iv ((pn2 : Nat) : Int)) ⟨(by kernel_rfl), (by kernel_rfl)⟩ (seq_on (by kernel_rfl) (s_gtr rfl rfl ?_ ?_))
    ·intro h5
     refine pu (.bool true) (by kernel_rfl) (pu (.bool true) (by kernel_rfl) (of_ (by kernel_rfl) (of_ (by kernel_rfl) (of_ (by kernel_rfl) (of_ (by kernel_rfl) (pu (.bool true) (by kernel_rfl) (seq_nil (wp_condT rfl (wp_seq ?_)))))))))
     refine rgn (by kernel_rfl) (pu (iv 13) (by kernel_rfl) (seq_nil (wp_ret ?_)))
     exact ⟨iv 13, Ret.r1 rfl rfl, ⟨by rw [ref_no (fun h => by have q1 := h.sown; have q2 := h.g0; have q3 := h.g1; have q4 := h.l1; have q5 := h.l2; have q6 := h.l3; first | omega | (simp_all [inB]; done) | (simp_all [inB]; omega))], hI.below⟩⟩
    ·intro h6
     refine pu (.bool false) (by kernel_rfl) (pu (.bool false) (by kernel_rfl) (puo (.pointer (some ⟨b1, 4, none⟩)) ⟨(by kernel_rfl), (by kernel_rfl)⟩ (seq_on (by kernel_rfl) (s_load1 hI 0 (.slice pA3 pn3 pc3) Tryz.isAgg26 rfl rfl rfl ?_))))
     refine puo (iv ((pn3 : Nat) : Int)) ⟨(by kernel_rfl), (by kernel_rfl)⟩ (seq_on (by kernel_rfl) (s_gtr rfl rfl ?_ ?_))
     ·intro h7
      refine pu (.bool true) (by kernel_rfl) (seq_nil (wp_condT rfl (wp_seq (rgn (by kernel_rfl) (pu (iv 13) (by kernel_rfl) (seq_nil (wp_ret ?_)))))))
      exact ⟨iv 13, Ret.r1 rfl rfl, ⟨by rw [ref_no (fun h => by have q1 := h.sown; have q2 := h.g0; have q3 := h.g1; have q4 := h.l1; have q5 := h.l2; have q6 := h.l3; first | omega | (simp_all [inB]; done) | (simp_all [inB]; omega))], hI.below⟩⟩
     ·intro h8
      refine pu (.bool false) (by kernel_rfl) (seq_nil (wp_condF rfl (wp_skip (wp_seq (wp_seq (rgn (by kernel_rfl) (pu (iv 0) (by kernel_rfl) (seq_nil (wp_block ?_)))))))))
      refine wp_loop (fun m ρ w => ∃ (k0 : Nat), Agree ρ [(1, .pointer (some ⟨b1, 0, none⟩)), (3, iv (k0 : Int))] ∧ Inv none w0 w [(some b1, blk [iv pl.lo, iv pl.hi, .slice pA1 pn1 pc1, .slice pA2 pn2 pc2, .slice pA3 pn3 pc3, iv pl.geese] 28)] ∧ (k0 ≤ pn1) ∧ (∀ i y, i < k0 → pl.loads[i]? = some y → Q1 Ld.src (okL 10) pl.loads i y) ∧ m = pn1 - k0) (m := pn1 - 0) ⟨0, ⟨rfl, rfl, trivial⟩, hI.pickL [0] (by decide) rfl, (by omega), (fun i y h => absurd h (by omega)), rfl⟩ ?_
      rintro m ρ w ⟨k0, hag, hI, hk0, hq0, hm⟩
      obtain ⟨ρ, rfl⟩ := hag.form; clear hag
      refine wp_seq (wp_seq (rgn (by kernel_rfl) (pu (iv (k0 : Int)) (by kernel_rfl) (pu (.pointer (some ⟨b1, 2, none⟩)) (by kernel_rfl) (seq_c (s_load1 hI 0 (.slice pA1 pn1 pc1) Tryz.isAgg24 rfl rfl rfl ?_))))))
      refine pu (iv ((pn1 : Nat) : Int)) (by kernel_rfl) (seq_c (s_lss rfl rfl ?_ ?_))
      ·intro h9
       refine seq_nil (wp_condT rfl (wp_skip (wp_seq (wp_block ?_))))
       refine wp_seq (wp_drawn2 hI [0] (by decide) rfl (by kernel_rfl) (by kernel_rfl) ?_)
       intro hsub
       refine alp 0 (.pointer (some ⟨b1, 2, none⟩)) hsub rfl (by kernel_rfl) (fun _ => (by kernel_rfl)) ?_
       refine al_light 1 (.slice pA1 pn1 pc1) hsub rfl (by kernel_rfl) (fun w hI => s_load1 hI 0 (.slice pA1 pn1 pc1) Tryz.isAgg24 rfl rfl rfl ⟨rfl, Below.refl _ _⟩) ?_
       refine alp 2 (iv (k0 : Int)) hsub rfl (by kernel_rfl) (fun _ => (by kernel_rfl)) ?_
       obtain ⟨x2, hx3⟩ := get_lt (l := pl.loads) (i := k0) (by omega)
       obtain ⟨b4, o5, hA6, hb7, he8⟩ := hP.c1.at_ eLd_len (by decide) hx3
       refine al_light 3 (.pointer (some ⟨b4, o5 + k0 * 6, none⟩)) hsub rfl (by kernel_rfl) (fun w hI => s_indexA k0 Tryz.underlying24 Tryz.sizeOf30 rfl hA6 rfl rfl (by omega) ⟨rfl, Below.refl _ _⟩) ?_
       refine al_light 4 (.agg #[iv x2.src, iv x2.hr, iv x2.lo, iv x2.hi, iv x2.kn, iv x2.un]) hsub rfl (by kernel_rfl) (fun w hI => s_loadBK hI [iv x2.src, iv x2.hr, iv x2.lo, iv x2.hi, iv x2.kn, iv x2.un] Tryz.isAgg30 Tryz.sizeOf30 rfl rfl hb7 (by simp) he8 ⟨rfl, Below.refl _ _⟩) ?_
       refine al_light 5 (iv (codeI (loadB x2.src x2.hr x2.lo x2.hi x2.kn x2.un) 10)) hsub rfl (by kernel_rfl) (fun w hI => s_call 25 [.agg #[iv x2.src, iv x2.hr, iv x2.lo, iv x2.hi, iv x2.kn, iv x2.un]] (by kernel_rfl) (refCheckLoad_c x2.src x2.hr x2.lo x2.hi x2.kn x2.un _) (fun v' w' h => h)) ?_
       by_cases h10 : (codeI (loadB x2.src x2.hr x2.lo x2.hi x2.kn x2.un) 10) = 0
       ·refine al_light 6 (.bool false) hsub rfl (by kernel_rfl) (fun w hI => s_neq rfl rfl (fun h => absurd h10 h) (fun _ => ⟨rfl, Below.refl _ _⟩)) ?_
        refine alp 7 (.bool false) hsub rfl (by kernel_rfl) (fun _ => (by kernel_rfl)) ?_
        refine al_on 8 (iv (k0 : Int)) hsub rfl (by kernel_rfl) (by kernel_rfl) (fun w hI => s_pure (iv (k0 : Int)) (by kernel_rfl) ⟨rfl, Below.refl _ _⟩) ?_
        by_cases h11 : 0 < (k0 : Int)
        ·refine al_on 9 (.bool true) hsub rfl (by kernel_rfl) (by kernel_rfl) (fun w hI => s_gtr rfl rfl (fun _ => ⟨rfl, Below.refl _ _⟩) (fun h => absurd h11 h)) ?_
         refine al_on 10 (.bool true) hsub rfl (by kernel_rfl) (by kernel_rfl) (fun w hI => s_pure (.bool true) (by kernel_rfl) ⟨rfl, Below.refl _ _⟩) ?_
         refine al_on 11 (.pointer (some ⟨b1, 2, none⟩)) hsub rfl (by kernel_rfl) (by kernel_rfl) (fun w hI => s_pure (.pointer (some ⟨b1, 2, none⟩)) (by kernel_rfl) ⟨rfl, Below.refl _ _⟩) ?_
         refine al_on 12 (.slice pA1 pn1 pc1) hsub rfl (by kernel_rfl) (by kernel_rfl) (fun w hI => s_load1 hI 0 (.slice pA1 pn1 pc1) Tryz.isAgg24 rfl rfl rfl ⟨rfl, Below.refl _ _⟩) ?_
         refine al_on 13 (iv (k0 : Int)) hsub rfl (by kernel_rfl) (by kernel_rfl) (fun w hI => s_pure (iv (k0 : Int)) (by kernel_rfl) ⟨rfl, Below.refl _ _⟩) ?_
         refine al_on 14 (iv ((k0 : Int) - 1)) hsub rfl (by kernel_rfl) (by kernel_rfl) (fun w hI => s_sub rfl rfl (by omega) ⟨rfl, Below.refl _ _⟩) ?_
         obtain ⟨x9, hx10⟩ := get_lt (l := pl.loads) (i := k0 - 1) (by omega)
         obtain ⟨b11, o12, hA13, hb14, he15⟩ := hP.c1.at_ eLd_len (by decide) hx10
         refine al_on 15 (.pointer (some ⟨b11, o12 + (k0 - 1) * 6, none⟩)) hsub rfl (by kernel_rfl) (by kernel_rfl) (fun w hI => s_indexA (k0 - 1) Tryz.underlying24 Tryz.sizeOf30 rfl hA13 rfl (by omega) (by omega) ⟨rfl, Below.refl _ _⟩) ?_
         refine al_on 16 (.pointer (some ⟨b11, o12 + (k0 - 1) * 6, none⟩)) hsub rfl (by kernel_rfl) (by kernel_rfl) (fun w hI => s_pure (.pointer (some ⟨b11, o12 + (k0 - 1) * 6, none⟩)) (by kernel_rfl) ⟨rfl, Below.refl _ _⟩) ?_
         refine al_on 17 (iv x9.src) hsub rfl (by kernel_rfl) (by kernel_rfl) (fun w hI => s_loadB1 hI (iv x9.src) Tryz.isAgg3 rfl hb14 (by simp) (he15 0 _ rfl) ⟨rfl, Below.refl _ _⟩) ?_
         refine al_on 18 (.pointer (some ⟨b1, 2, none⟩)) hsub rfl (by kernel_rfl) (by kernel_rfl) (fun w hI => s_pure (.pointer (some ⟨b1, 2, none⟩)) (by kernel_rfl) ⟨rfl, Below.refl _ _⟩) ?_
         refine al_on 19 (.slice pA1 pn1 pc1) hsub rfl (by kernel_rfl) (by kernel_rfl) (fun w hI => s_load1 hI 0 (.slice pA1 pn1 pc1) Tryz.isAgg24 rfl rfl rfl ⟨rfl, Below.refl _ _⟩) ?_
         refine al_on 20 (iv (k0 : Int)) hsub rfl (by kernel_rfl) (by kernel_rfl) (fun w hI => s_pure (iv (k0 : Int)) (by kernel_rfl) ⟨rfl, Below.refl _ _⟩) ?_
         refine al_on 21 (.pointer (some ⟨b4, o5 + k0 * 6, none⟩)) hsub rfl (by kernel_rfl) (by kernel_rfl) (fun w hI => s_indexA k0 Tryz.underlying24 Tryz.sizeOf30 rfl hA6 rfl rfl (by omega) ⟨rfl, Below.refl _ _⟩) ?_
         refine al_on 22 (.pointer (some ⟨b4, o5 + k0 * 6, none⟩)) hsub rfl (by kernel_rfl) (by kernel_rfl) (fun w hI => s_pure (.pointer (some ⟨b4, o5 + k0 * 6, none⟩)) (by kernel_rfl) ⟨rfl, Below.refl _ _⟩) ?_
         refine al_on 23 (iv x2.src) hsub rfl (by kernel_rfl) (by kernel_rfl) (fun w hI => s_loadB1 hI (iv x2.src) Tryz.isAgg3 rfl hb7 (by simp) (he8 0 _ rfl) ⟨rfl, Below.refl _ _⟩) ?_
         by_cases h12 : x2.src ≤ x9.src
         ·refine al_on 24 (.bool true) hsub rfl (by kernel_rfl) (by kernel_rfl) (fun w hI => s_geq rfl rfl (fun _ => ⟨rfl, Below.refl _ _⟩) (fun h => absurd h12 h)) ?_
          refine al_on 25 (.bool true) hsub rfl (by kernel_rfl) (by kernel_rfl) (fun w hI => s_pure (.bool true) (by kernel_rfl) ⟨rfl, Below.refl _ _⟩) ?_
          refine alp 26 (.bool true) hsub rfl (by kernel_rfl) (fun _ => (by kernel_rfl)) ?_
          refine any_end (by kernel_rfl) (fun w hI => ?_)
          refine wp_condT rfl (wp_seq (rgn (by kernel_rfl) (pu (iv 13) (by kernel_rfl) (seq_nil (wp_ret ?_)))))
          exact ⟨iv 13, Ret.r1 rfl rfl, ⟨by rw [ref_no (fun h => by first | exact absurd (h.o1 _ (mem_of_get hx3)) (by assumption) | (have := h.a1 _ _ _ hx10 (by rw [show k0 - 1 + 1 = k0 by omega]; exact hx3); omega))], hI.below⟩⟩
         ·refine al_on 24 (.bool false) hsub rfl (by kernel_rfl) (by kernel_rfl) (fun w hI => s_geq rfl rfl (fun h => absurd h h12) (fun _ => ⟨rfl, Below.refl _ _⟩)) ?_
          refine al_on 25 (.bool false) hsub rfl (by kernel_rfl) (by kernel_rfl) (fun w hI => s_pure (.bool false) (by kernel_rfl) ⟨rfl, Below.refl _ _⟩) ?_
          refine alp 26 (.bool false) hsub rfl (by kernel_rfl) (fun _ => (by kernel_rfl)) ?_
          refine any_end (by kernel_rfl) (fun w hI => ?_)
          refine wp_condF rfl (wp_skip (rgn (by kernel_rfl) (pu (iv (k0 : Int)) (by kernel_rfl) (seq_c (s_add rfl rfl (by omega) ?_)))))
          refine pu (iv ((k0 : Int) + 1)) (by kernel_rfl) (seq_nil ?_)
          exact ⟨rfl, _, (by omega), ⟨k0 + 1, ⟨rfl, rfl, trivial⟩, hI.pickL [0] (by decide) rfl, (by omega), (all_step hq0 hx3 ⟨by assumption, fun y h0 hy => by have e := Option.some.inj (hy.symm.trans hx10); rw [e]; omega⟩), rfl⟩⟩
        ·refine al_on 9 (.bool false) hsub rfl (by kernel_rfl) (by kernel_rfl) (fun w hI => s_gtr rfl rfl (fun h => absurd h h11) (fun _ => ⟨rfl, Below.refl _ _⟩)) ?_
         refine al_on 10 (.bool false) hsub rfl (by kernel_rfl) (by kernel_rfl) (fun w hI => s_pure (.bool false) (by kernel_rfl) ⟨rfl, Below.refl _ _⟩) ?_
         refine al_off 11 hsub rfl (by kernel_rfl) (by kernel_rfl) ?_
         refine al_off 12 hsub rfl (by kernel_rfl) (by kernel_rfl) ?_
         refine al_off 13 hsub rfl (by kernel_rfl) (by kernel_rfl) ?_
         refine al_off 14 hsub rfl (by kernel_rfl) (by kernel_rfl) ?_
         refine al_off 15 hsub rfl (by kernel_rfl) (by kernel_rfl) ?_
         refine al_off 16 hsub rfl (by kernel_rfl) (by kernel_rfl) ?_
         refine al_off 17 hsub rfl (by kernel_rfl) (by kernel_rfl) ?_
         refine al_off 18 hsub rfl (by kernel_rfl) (by kernel_rfl) ?_
         refine al_off 19 hsub rfl (by kernel_rfl) (by kernel_rfl) ?_
         refine al_off 20 hsub rfl (by kernel_rfl) (by kernel_rfl) ?_
         refine al_off 21 hsub rfl (by kernel_rfl) (by kernel_rfl) ?_
         refine al_off 22 hsub rfl (by kernel_rfl) (by kernel_rfl) ?_
         refine al_off 23 hsub rfl (by kernel_rfl) (by kernel_rfl) ?_
         refine al_off 24 hsub rfl (by kernel_rfl) (by kernel_rfl) ?_
         refine al_on 25 (.bool false) hsub rfl (by kernel_rfl) (by kernel_rfl) (fun w hI => s_pure (.bool false) (by kernel_rfl) ⟨rfl, Below.refl _ _⟩) ?_
         refine alp 26 (.bool false) hsub rfl (by kernel_rfl) (fun _ => (by kernel_rfl)) ?_
         refine any_end (by kernel_rfl) (fun w hI => ?_)
         refine wp_condF rfl (wp_skip (rgn (by kernel_rfl) (pu (iv (k0 : Int)) (by kernel_rfl) (seq_c (s_add rfl rfl (by omega) ?_)))))
         refine pu (iv ((k0 : Int) + 1)) (by kernel_rfl) (seq_nil ?_)
         exact ⟨rfl, _, (by omega), ⟨k0 + 1, ⟨rfl, rfl, trivial⟩, hI.pickL [0] (by decide) rfl, (by omega), (all_step hq0 hx3 ⟨by assumption, fun y h0 hy => by omega⟩), rfl⟩⟩
       ·refine al_light 6 (.bool true) hsub rfl (by kernel_rfl) (fun w hI => s_neq rfl rfl (fun _ => ⟨rfl, Below.refl _ _⟩) (fun h => absurd h h10)) ?_
        refine alp 7 (.bool true) hsub rfl (by kernel_rfl) (fun _ => (by kernel_rfl)) ?_
        refine al_off 8 hsub rfl (by kernel_rfl) (by kernel_rfl) ?_
        refine al_off 9 hsub rfl (by kernel_rfl) (by kernel_rfl) ?_
        refine al_off 10 hsub rfl (by kernel_rfl) (by kernel_rfl) ?_
        refine al_off 11 hsub rfl (by kernel_rfl) (by kernel_rfl) ?_
        refine al_off 12 hsub rfl (by kernel_rfl) (by kernel_rfl) ?_
        refine al_off 13 hsub rfl (by kernel_rfl) (by kernel_rfl) ?_
        refine al_off 14 hsub rfl (by kernel_rfl) (by kernel_rfl) ?_
        refine al_off 15 hsub rfl (by kernel_rfl) (by kernel_rfl) ?_
        refine al_off 16 hsub rfl (by kernel_rfl) (by kernel_rfl) ?_
        refine al_off 17 hsub rfl (by kernel_rfl) (by kernel_rfl) ?_
        refine al_off 18 hsub rfl (by kernel_rfl) (by kernel_rfl) ?_
        refine al_off 19 hsub rfl (by kernel_rfl) (by kernel_rfl) ?_
        refine al_off 20 hsub rfl (by kernel_rfl) (by kernel_rfl) ?_
        refine al_off 21 hsub rfl (by kernel_rfl) (by kernel_rfl) ?_
        refine al_off 22 hsub rfl (by kernel_rfl) (by kernel_rfl) ?_
        refine al_off 23 hsub rfl (by kernel_rfl) (by kernel_rfl) ?_
        refine al_off 24 hsub rfl (by kernel_rfl) (by kernel_rfl) ?_
        refine al_off 25 hsub rfl (by kernel_rfl) (by kernel_rfl) ?_
        refine alp 26 (.bool true) hsub rfl (by kernel_rfl) (fun _ => (by kernel_rfl)) ?_
        refine any_end (by kernel_rfl) (fun w hI => ?_)
        refine wp_condT rfl (wp_seq (rgn (by kernel_rfl) (pu (iv 13) (by kernel_rfl) (seq_nil (wp_ret ?_)))))
        exact ⟨iv 13, Ret.r1 rfl rfl, ⟨by rw [ref_no (fun h => by first | exact absurd (h.o1 _ (mem_of_get hx3)) (by assumption) | omega)], hI.below⟩⟩
      ·intro h13
       refine seq_nil (wp_condF rfl (wp_exit ?_))
       refine wp_seq (wp_seq (rgn (by kernel_rfl) (pu (iv 0) (by kernel_rfl) (seq_nil (wp_block ?_)))))
       refine wp_loop (fun m ρ w => ∃ (k1 : Nat), Agree ρ [(1, .pointer (some ⟨b1, 0, none⟩)), (4, iv (k1 : Int))] ∧ Inv none w0 w [(some b1, blk [iv pl.lo, iv pl.hi, .slice pA1 pn1 pc1, .slice pA2 pn2 pc2, .slice pA3 pn3 pc3, iv pl.geese] 28)] ∧ (k1 ≤ pn2) ∧ (∀ i y, i < k1 → pl.stands[i]? = some y → Q1 Ld.src (okL 11) pl.stands i y) ∧ m = pn2 - k1) (m := pn2 - 0) ⟨0, ⟨rfl, rfl, trivial⟩, hI.pickL [0] (by decide) rfl, (by omega), (fun i y h => absurd h (by omega)), rfl⟩ ?_
       rintro m ρ w ⟨k1, hag, hI, hk1, hq1, hm⟩
       obtain ⟨ρ, rfl⟩ := hag.form; clear hag
       refine wp_seq (wp_seq (rgn (by kernel_rfl) (pu (iv (k1 : Int)) (by kernel_rfl) (pu (.pointer (some ⟨b1, 3, none⟩)) (by kernel_rfl) (seq_c (s_load1 hI 0 (.slice pA2 pn2 pc2) Tryz.isAgg25 rfl rfl rfl ?_))))))
       refine pu (iv ((pn2 : Nat) : Int)) (by kernel_rfl) (seq_c (s_lss rfl rfl ?_ ?_))
       ·intro h14
        refine seq_nil (wp_condT rfl (wp_skip (wp_seq (wp_block ?_))))
        refine wp_seq (wp_drawn2 hI [0] (by decide) rfl (by kernel_rfl) (by kernel_rfl) ?_)
        intro hsub
        refine alp 0 (.pointer (some ⟨b1, 3, none⟩)) hsub rfl (by kernel_rfl) (fun _ => (by kernel_rfl)) ?_
        refine al_light 1 (.slice pA2 pn2 pc2) hsub rfl (by kernel_rfl) (fun w hI => s_load1 hI 0 (.slice pA2 pn2 pc2) Tryz.isAgg25 rfl rfl rfl ⟨rfl, Below.refl _ _⟩) ?_
        refine alp 2 (iv (k1 : Int)) hsub rfl (by kernel_rfl) (fun _ => (by kernel_rfl)) ?_
        obtain ⟨x16, hx17⟩ := get_lt (l := pl.stands) (i := k1) (by omega)
        obtain ⟨b18, o19, hA20, hb21, he22⟩ := hP.c2.at_ eLd_len (by decide) hx17
        refine al_light 3 (.pointer (some ⟨b18, o19 + k1 * 6, none⟩)) hsub rfl (by kernel_rfl) (fun w hI => s_indexA k1 Tryz.underlying25 Tryz.sizeOf31 rfl hA20 rfl rfl (by omega) ⟨rfl, Below.refl _ _⟩) ?_
        refine al_light 4 (.agg #[iv x16.src, iv x16.hr, iv x16.lo, iv x16.hi, iv x16.kn, iv x16.un]) hsub rfl (by kernel_rfl) (fun w hI => s_loadBK hI [iv x16.src, iv x16.hr, iv x16.lo, iv x16.hi, iv x16.kn, iv x16.un] Tryz.isAgg31 Tryz.sizeOf31 rfl rfl hb21 (by simp) he22 ⟨rfl, Below.refl _ _⟩) ?_
        refine al_light 5 (iv (codeI (loadB x16.src x16.hr x16.lo x16.hi x16.kn x16.un) 11)) hsub rfl (by kernel_rfl) (fun w hI => s_call 27 [.agg #[iv x16.src, iv x16.hr, iv x16.lo, iv x16.hi, iv x16.kn, iv x16.un]] (by kernel_rfl) (refCheckStand_c x16.src x16.hr x16.lo x16.hi x16.kn x16.un _) (fun v' w' h => h)) ?_
        by_cases h15 : (codeI (loadB x16.src x16.hr x16.lo x16.hi x16.kn x16.un) 11) = 0
        ·refine al_light 6 (.bool false) hsub rfl (by kernel_rfl) (fun w hI => s_neq rfl rfl (fun h => absurd h15 h) (fun _ => ⟨rfl, Below.refl _ _⟩)) ?_
         refine alp 7 (.bool false) hsub rfl (by kernel_rfl) (fun _ => (by kernel_rfl)) ?_
         refine al_on 8 (iv (k1 : Int)) hsub rfl (by kernel_rfl) (by kernel_rfl) (fun w hI => s_pure (iv (k1 : Int)) (by kernel_rfl) ⟨rfl, Below.refl _ _⟩) ?_
         by_cases h16 : 0 < (k1 : Int)
         ·refine al_on 9 (.bool true) hsub rfl (by kernel_rfl) (by kernel_rfl) (fun w hI => s_gtr rfl rfl (fun _ => ⟨rfl, Below.refl _ _⟩) (fun h => absurd h16 h)) ?_
          refine al_on 10 (.bool true) hsub rfl (by kernel_rfl) (by kernel_rfl) (fun w hI => s_pure (.bool true) (by kernel_rfl) ⟨rfl, Below.refl _ _⟩) ?_
          refine al_on 11 (.pointer (some ⟨b1, 3, none⟩)) hsub rfl (by kernel_rfl) (by kernel_rfl) (fun w hI => s_pure (.pointer (some ⟨b1, 3, none⟩)) (by kernel_rfl) ⟨rfl, Below.refl _ _⟩) ?_
          refine al_on 12 (.slice pA2 pn2 pc2) hsub rfl (by kernel_rfl) (by kernel_rfl) (fun w hI => s_load1 hI 0 (.slice pA2 pn2 pc2) Tryz.isAgg25 rfl rfl rfl ⟨rfl, Below.refl _ _⟩) ?_
          refine al_on 13 (iv (k1 : Int)) hsub rfl (by kernel_rfl) (by kernel_rfl) (fun w hI => s_pure (iv (k1 : Int)) (by kernel_rfl) ⟨rfl, Below.refl _ _⟩) ?_
          refine al_on 14 (iv ((k1 : Int) - 1)) hsub rfl (by kernel_rfl) (by kernel_rfl) (fun w hI => s_sub rfl rfl (by omega) ⟨rfl, Below.refl _ _⟩) ?_
          obtain ⟨x23, hx24⟩ := get_lt (l := pl.stands) (i := k1 - 1) (by omega)
          obtain ⟨b25, o26, hA27, hb28, he29⟩ := hP.c2.at_ eLd_len (by decide) hx24
          refine al_on 15 (.pointer (some ⟨b25, o26 + (k1 - 1) * 6, none⟩)) hsub rfl (by kernel_rfl) (by kernel_rfl) (fun w hI => s_indexA (k1 - 1) Tryz.underlying25 Tryz.sizeOf31 rfl hA27 rfl (by omega) (by omega) ⟨rfl, Below.refl _ _⟩) ?_
          refine al_on 16 (.pointer (some ⟨b25, o26 + (k1 - 1) * 6, none⟩)) hsub rfl (by kernel_rfl) (by kernel_rfl) (fun w hI => s_pure (.pointer (some ⟨b25, o26 + (k1 - 1) * 6, none⟩)) (by kernel_rfl) ⟨rfl, Below.refl _ _⟩) ?_
          refine al_on 17 (iv x23.src) hsub rfl (by kernel_rfl) (by kernel_rfl) (fun w hI => s_loadB1 hI (iv x23.src) Tryz.isAgg3 rfl hb28 (by simp) (he29 0 _ rfl) ⟨rfl, Below.refl _ _⟩) ?_
          refine al_on 18 (.pointer (some ⟨b1, 3, none⟩)) hsub rfl (by kernel_rfl) (by kernel_rfl) (fun w hI => s_pure (.pointer (some ⟨b1, 3, none⟩)) (by kernel_rfl) ⟨rfl, Below.refl _ _⟩) ?_
          refine al_on 19 (.slice pA2 pn2 pc2) hsub rfl (by kernel_rfl) (by kernel_rfl) (fun w hI => s_load1 hI 0 (.slice pA2 pn2 pc2) Tryz.isAgg25 rfl rfl rfl ⟨rfl, Below.refl _ _⟩) ?_
          refine al_on 20 (iv (k1 : Int)) hsub rfl (by kernel_rfl) (by kernel_rfl) (fun w hI => s_pure (iv (k1 : Int)) (by kernel_rfl) ⟨rfl, Below.refl _ _⟩) ?_
          refine al_on 21 (.pointer (some ⟨b18, o19 + k1 * 6, none⟩)) hsub rfl (by kernel_rfl) (by kernel_rfl) (fun w hI => s_indexA k1 Tryz.underlying25 Tryz.sizeOf31 rfl hA20 rfl rfl (by omega) ⟨rfl, Below.refl _ _⟩) ?_
          refine al_on 22 (.pointer (some ⟨b18, o19 + k1 * 6, none⟩)) hsub rfl (by kernel_rfl) (by kernel_rfl) (fun w hI => s_pure (.pointer (some ⟨b18, o19 + k1 * 6, none⟩)) (by kernel_rfl) ⟨rfl, Below.refl _ _⟩) ?_
          refine al_on 23 (iv x16.src) hsub rfl (by kernel_rfl) (by kernel_rfl) (fun w hI => s_loadB1 hI (iv x16.src) Tryz.isAgg3 rfl hb21 (by simp) (he22 0 _ rfl) ⟨rfl, Below.refl _ _⟩) ?_
          by_cases h17 : x16.src ≤ x23.src
          ·refine al_on 24 (.bool true) hsub rfl (by kernel_rfl) (by kernel_rfl) (fun w hI => s_geq rfl rfl (fun _ => ⟨rfl, Below.refl _ _⟩) (fun h => absurd h17 h)) ?_
           refine al_on 25 (.bool true) hsub rfl (by kernel_rfl) (by kernel_rfl) (fun w hI => s_pure (.bool true) (by kernel_rfl) ⟨rfl, Below.refl _ _⟩) ?_
           refine alp 26 (.bool true) hsub rfl (by kernel_rfl) (fun _ => (by kernel_rfl)) ?_
           refine any_end (by kernel_rfl) (fun w hI => ?_)
           refine wp_condT rfl (wp_seq (rgn (by kernel_rfl) (pu (iv 13) (by kernel_rfl) (seq_nil (wp_ret ?_)))))
           exact ⟨iv 13, Ret.r1 rfl rfl, ⟨by rw [ref_no (fun h => by first | exact absurd (h.o2 _ (mem_of_get hx17)) (by assumption) | (have := h.a2 _ _ _ hx24 (by rw [show k1 - 1 + 1 = k1 by omega]; exact hx17); omega))], hI.below⟩⟩
          ·refine al_on 24 (.bool false) hsub rfl (by kernel_rfl) (by kernel_rfl) (fun w hI => s_geq rfl rfl (fun h => absurd h h17) (fun _ => ⟨rfl, Below.refl _ _⟩)) ?_
           refine al_on 25 (.bool false) hsub rfl (by kernel_rfl) (by kernel_rfl) (fun w hI => s_pure (.bool false) (by kernel_rfl) ⟨rfl, Below.refl _ _⟩) ?_
           refine alp 26 (.bool false) hsub rfl (by kernel_rfl) (fun _ => (by kernel_rfl)) ?_
           refine any_end (by kernel_rfl) (fun w hI => ?_)
           refine wp_condF rfl (wp_skip (rgn (by kernel_rfl) (pu (iv (k1 : Int)) (by kernel_rfl) (seq_c (s_add rfl rfl (by omega) ?_)))))
           refine pu (iv ((k1 : Int) + 1)) (by kernel_rfl) (seq_nil ?_)
           exact ⟨rfl, _, (by omega), ⟨k1 + 1, ⟨rfl, rfl, trivial⟩, hI.pickL [0] (by decide) rfl, (by omega), (all_step hq1 hx17 ⟨by assumption, fun y h0 hy => by have e := Option.some.inj (hy.symm.trans hx24); rw [e]; omega⟩), rfl⟩⟩
         ·refine al_on 9 (.bool false) hsub rfl (by kernel_rfl) (by kernel_rfl) (fun w hI => s_gtr rfl rfl (fun h => absurd h h16) (fun _ => ⟨rfl, Below.refl _ _⟩)) ?_
          refine al_on 10 (.bool false) hsub rfl (by kernel_rfl) (by kernel_rfl) (fun w hI => s_pure (.bool false) (by kernel_rfl) ⟨rfl, Below.refl _ _⟩) ?_
          refine al_off 11 hsub rfl (by kernel_rfl) (by kernel_rfl) ?_
          refine al_off 12 hsub rfl (by kernel_rfl) (by kernel_rfl) ?_
          refine al_off 13 hsub rfl (by kernel_rfl) (by kernel_rfl) ?_
          refine al_off 14 hsub rfl (by kernel_rfl) (by kernel_rfl) ?_
          refine al_off 15 hsub rfl (by kernel_rfl) (by kernel_rfl) ?_
          refine al_off 16 hsub rfl (by kernel_rfl) (by kernel_rfl) ?_
          refine al_off 17 hsub rfl (by kernel_rfl) (by kernel_rfl) ?_
          refine al_off 18 hsub rfl (by kernel_rfl) (by kernel_rfl) ?_
          refine al_off 19 hsub rfl (by kernel_rfl) (by kernel_rfl) ?_
          refine al_off 20 hsub rfl (by kernel_rfl) (by kernel_rfl) ?_
          refine al_off 21 hsub rfl (by kernel_rfl) (by kernel_rfl) ?_
          refine al_off 22 hsub rfl (by kernel_rfl) (by kernel_rfl) ?_
          refine al_off 23 hsub rfl (by kernel_rfl) (by kernel_rfl) ?_
          refine al_off 24 hsub rfl (by kernel_rfl) (by kernel_rfl) ?_
          refine al_on 25 (.bool false) hsub rfl (by kernel_rfl) (by kernel_rfl) (fun w hI => s_pure (.bool false) (by kernel_rfl) ⟨rfl, Below.refl _ _⟩) ?_
          refine alp 26 (.bool false) hsub rfl (by kernel_rfl) (fun _ => (by kernel_rfl)) ?_
          refine any_end (by kernel_rfl) (fun w hI => ?_)
          refine wp_condF rfl (wp_skip (rgn (by kernel_rfl) (pu (iv (k1 : Int)) (by kernel_rfl) (seq_c (s_add rfl rfl (by omega) ?_)))))
          refine pu (iv ((k1 : Int) + 1)) (by kernel_rfl) (seq_nil ?_)
          exact ⟨rfl, _, (by omega), ⟨k1 + 1, ⟨rfl, rfl, trivial⟩, hI.pickL [0] (by decide) rfl, (by omega), (all_step hq1 hx17 ⟨by assumption, fun y h0 hy => by omega⟩), rfl⟩⟩
        ·refine al_light 6 (.bool true) hsub rfl (by kernel_rfl) (fun w hI => s_neq rfl rfl (fun _ => ⟨rfl, Below.refl _ _⟩) (fun h => absurd h h15)) ?_
         refine alp 7 (.bool true) hsub rfl (by kernel_rfl) (fun _ => (by kernel_rfl)) ?_
         refine al_off 8 hsub rfl (by kernel_rfl) (by kernel_rfl) ?_
         refine al_off 9 hsub rfl (by kernel_rfl) (by kernel_rfl) ?_
         refine al_off 10 hsub rfl (by kernel_rfl) (by kernel_rfl) ?_
         refine al_off 11 hsub rfl (by kernel_rfl) (by kernel_rfl) ?_
         refine al_off 12 hsub rfl (by kernel_rfl) (by kernel_rfl) ?_
         refine al_off 13 hsub rfl (by kernel_rfl) (by kernel_rfl) ?_
         refine al_off 14 hsub rfl (by kernel_rfl) (by kernel_rfl) ?_
         refine al_off 15 hsub rfl (by kernel_rfl) (by kernel_rfl) ?_
         refine al_off 16 hsub rfl (by kernel_rfl) (by kernel_rfl) ?_
         refine al_off 17 hsub rfl (by kernel_rfl) (by kernel_rfl) ?_
         refine al_off 18 hsub rfl (by kernel_rfl) (by kernel_rfl) ?_
         refine al_off 19 hsub rfl (by kernel_rfl) (by kernel_rfl) ?_
         refine al_off 20 hsub rfl (by kernel_rfl) (by kernel_rfl) ?_
         refine al_off 21 hsub rfl (by kernel_rfl) (by kernel_rfl) ?_
         refine al_off 22 hsub rfl (by kernel_rfl) (by kernel_rfl) ?_
         refine al_off 23 hsub rfl (by kernel_rfl) (by kernel_rfl) ?_
         refine al_off 24 hsub rfl (by kernel_rfl) (by kernel_rfl) ?_
         refine al_off 25 hsub rfl (by kernel_rfl) (by kernel_rfl) ?_
         refine alp 26 (.bool true) hsub rfl (by kernel_rfl) (fun _ => (by kernel_rfl)) ?_
         refine any_end (by kernel_rfl) (fun w hI => ?_)
         refine wp_condT rfl (wp_seq (rgn (by kernel_rfl) (pu (iv 13) (by kernel_rfl) (seq_nil (wp_ret ?_)))))
         exact ⟨iv 13, Ret.r1 rfl rfl, ⟨by rw [ref_no (fun h => by first | exact absurd (h.o2 _ (mem_of_get hx17)) (by assumption) | omega)], hI.below⟩⟩
       ·intro h18
        refine seq_nil (wp_condF rfl (wp_exit ?_))
        refine wp_seq (wp_seq (rgn (by kernel_rfl) (pu (iv 0) (by kernel_rfl) (seq_nil (wp_block ?_)))))
        refine wp_loop (fun m ρ w => ∃ (k2 : Nat), Agree ρ [(1, .pointer (some ⟨b1, 0, none⟩)), (5, iv (k2 : Int))] ∧ Inv none w0 w [(some b1, blk [iv pl.lo, iv pl.hi, .slice pA1 pn1 pc1, .slice pA2 pn2 pc2, .slice pA3 pn3 pc3, iv pl.geese] 28)] ∧ (k2 ≤ pn3) ∧ (∀ i y, i < k2 → pl.spells[i]? = some y → Q1 Sp.src okS pl.spells i y) ∧ m = pn3 - k2) (m := pn3 - 0) ⟨0, ⟨rfl, rfl, trivial⟩, hI.pickL [0] (by decide) rfl, (by omega), (fun i y h => absurd h (by omega)), rfl⟩ ?_
        rintro m ρ w ⟨k2, hag, hI, hk2, hq2, hm⟩
        obtain ⟨ρ, rfl⟩ := hag.form; clear hag
        refine wp_seq (wp_seq (rgn (by kernel_rfl) (pu (iv (k2 : Int)) (by kernel_rfl) (pu (.pointer (some ⟨b1, 4, none⟩)) (by kernel_rfl) (seq_c (s_load1 hI 0 (.slice pA3 pn3 pc3) Tryz.isAgg26 rfl rfl rfl ?_))))))
        refine pu (iv ((pn3 : Nat) : Int)) (by kernel_rfl) (seq_c (s_lss rfl rfl ?_ ?_))
        ·intro h19
         refine seq_nil (wp_condT rfl (wp_skip (wp_seq (wp_block ?_))))
         refine wp_seq (wp_drawn2 hI [0] (by decide) rfl (by kernel_rfl) (by kernel_rfl) ?_)
         intro hsub
         refine alp 0 (.pointer (some ⟨b1, 4, none⟩)) hsub rfl (by kernel_rfl) (fun _ => (by kernel_rfl)) ?_
         refine al_light 1 (.slice pA3 pn3 pc3) hsub rfl (by kernel_rfl) (fun w hI => s_load1 hI 0 (.slice pA3 pn3 pc3) Tryz.isAgg26 rfl rfl rfl ⟨rfl, Below.refl _ _⟩) ?_
         refine alp 2 (iv (k2 : Int)) hsub rfl (by kernel_rfl) (fun _ => (by kernel_rfl)) ?_
         obtain ⟨x30, hx31⟩ := get_lt (l := pl.spells) (i := k2) (by omega)
         obtain ⟨b32, o33, hA34, hb35, he36⟩ := hP.c3.at_ eSp_len (by decide) hx31
         refine al_light 3 (.pointer (some ⟨b32, o33 + k2 * 6, none⟩)) hsub rfl (by kernel_rfl) (fun w hI => s_indexA k2 Tryz.underlying26 Tryz.sizeOf33 rfl hA34 rfl rfl (by omega) ⟨rfl, Below.refl _ _⟩) ?_
         refine al_light 4 (.agg #[iv x30.src, iv x30.kd, iv x30.fr, iv x30.to, iv x30.kn, iv x30.un]) hsub rfl (by kernel_rfl) (fun w hI => s_loadBK hI [iv x30.src, iv x30.kd, iv x30.fr, iv x30.to, iv x30.kn, iv x30.un] Tryz.isAgg33 Tryz.sizeOf33 rfl rfl hb35 (by simp) he36 ⟨rfl, Below.refl _ _⟩) ?_
         refine al_light 5 (iv (codeI (spellB x30.src x30.kd x30.fr x30.to x30.kn x30.un) 12)) hsub rfl (by kernel_rfl) (fun w hI => s_call 29 [.agg #[iv x30.src, iv x30.kd, iv x30.fr, iv x30.to, iv x30.kn, iv x30.un]] (by kernel_rfl) (refCheckSpell_c x30.src x30.kd x30.fr x30.to x30.kn x30.un _) (fun v' w' h => h)) ?_
         by_cases h20 : (codeI (spellB x30.src x30.kd x30.fr x30.to x30.kn x30.un) 12) = 0
         ·refine al_light 6 (.bool false) hsub rfl (by kernel_rfl) (fun w hI => s_neq rfl rfl (fun h => absurd h20 h) (fun _ => ⟨rfl, Below.refl _ _⟩)) ?_
          refine alp 7 (.bool false) hsub rfl (by kernel_rfl) (fun _ => (by kernel_rfl)) ?_
          refine al_on 8 (iv (k2 : Int)) hsub rfl (by kernel_rfl) (by kernel_rfl) (fun w hI => s_pure (iv (k2 : Int)) (by kernel_rfl) ⟨rfl, Below.refl _ _⟩) ?_
          by_cases h21 : 0 < (k2 : Int)
          ·refine al_on 9 (.bool true) hsub rfl (by kernel_rfl) (by kernel_rfl) (fun w hI => s_gtr rfl rfl (fun _ => ⟨rfl, Below.refl _ _⟩) (fun h => absurd h21 h)) ?_
           refine al_on 10 (.bool true) hsub rfl (by kernel_rfl) (by kernel_rfl) (fun w hI => s_pure (.bool true) (by kernel_rfl) ⟨rfl, Below.refl _ _⟩) ?_
           refine al_on 11 (.pointer (some ⟨b1, 4, none⟩)) hsub rfl (by kernel_rfl) (by kernel_rfl) (fun w hI => s_pure (.pointer (some ⟨b1, 4, none⟩)) (by kernel_rfl) ⟨rfl, Below.refl _ _⟩) ?_
           refine al_on 12 (.slice pA3 pn3 pc3) hsub rfl (by kernel_rfl) (by kernel_rfl) (fun w hI => s_load1 hI 0 (.slice pA3 pn3 pc3) Tryz.isAgg26 rfl rfl rfl ⟨rfl, Below.refl _ _⟩) ?_
           refine al_on 13 (iv (k2 : Int)) hsub rfl (by kernel_rfl) (by kernel_rfl) (fun w hI => s_pure (iv (k2 : Int)) (by kernel_rfl) ⟨rfl, Below.refl _ _⟩) ?_
           refine al_on 14 (iv ((k2 : Int) - 1)) hsub rfl (by kernel_rfl) (by kernel_rfl) (fun w hI => s_sub rfl rfl (by omega) ⟨rfl, Below.refl _ _⟩) ?_
           obtain ⟨x37, hx38⟩ := get_lt (l := pl.spells) (i := k2 - 1) (by omega)
           obtain ⟨b39, o40, hA41, hb42, he43⟩ := hP.c3.at_ eSp_len (by decide) hx38
           refine al_on 15 (.pointer (some ⟨b39, o40 + (k2 - 1) * 6, none⟩)) hsub rfl (by kernel_rfl) (by kernel_rfl) (fun w hI => s_indexA (k2 - 1) Tryz.underlying26 Tryz.sizeOf33 rfl hA41 rfl (by omega) (by omega) ⟨rfl, Below.refl _ _⟩) ?_
           refine al_on 16 (.pointer (some ⟨b39, o40 + (k2 - 1) * 6, none⟩)) hsub rfl (by kernel_rfl) (by kernel_rfl) (fun w hI => s_pure (.pointer (some ⟨b39, o40 + (k2 - 1) * 6, none⟩)) (by kernel_rfl) ⟨rfl, Below.refl _ _⟩) ?_
           refine al_on 17 (iv x37.src) hsub rfl (by kernel_rfl) (by kernel_rfl) (fun w hI => s_loadB1 hI (iv x37.src) Tryz.isAgg3 rfl hb42 (by simp) (he43 0 _ rfl) ⟨rfl, Below.refl _ _⟩) ?_
           refine al_on 18 (.pointer (some ⟨b1, 4, none⟩)) hsub rfl (by kernel_rfl) (by kernel_rfl) (fun w hI => s_pure (.pointer (some ⟨b1, 4, none⟩)) (by kernel_rfl) ⟨rfl, Below.refl _ _⟩) ?_
           refine al_on 19 (.slice pA3 pn3 pc3) hsub rfl (by kernel_rfl) (by kernel_rfl) (fun w hI => s_load1 hI 0 (.slice pA3 pn3 pc3) Tryz.isAgg26 rfl rfl rfl ⟨rfl, Below.refl _ _⟩) ?_
           refine al_on 20 (iv (k2 : Int)) hsub rfl (by kernel_rfl) (by kernel_rfl) (fun w hI => s_pure (iv (k2 : Int)) (by kernel_rfl) ⟨rfl, Below.refl _ _⟩) ?_
           refine al_on 21 (.pointer (some ⟨b32, o33 + k2 * 6, none⟩)) hsub rfl (by kernel_rfl) (by kernel_rfl) (fun w hI => s_indexA k2 Tryz.underlying26 Tryz.sizeOf33 rfl hA34 rfl rfl (by omega) ⟨rfl, Below.refl _ _⟩) ?_
           refine al_on 22 (.pointer (some ⟨b32, o33 + k2 * 6, none⟩)) hsub rfl (by kernel_rfl) (by kernel_rfl) (fun w hI => s_pure (.pointer (some ⟨b32, o33 + k2 * 6, none⟩)) (by kernel_rfl) ⟨rfl, Below.refl _ _⟩) ?_
           refine al_on 23 (iv x30.src) hsub rfl (by kernel_rfl) (by kernel_rfl) (fun w hI => s_loadB1 hI (iv x30.src) Tryz.isAgg3 rfl hb35 (by simp) (he36 0 _ rfl) ⟨rfl, Below.refl _ _⟩) ?_
           by_cases h22 : x30.src ≤ x37.src
           ·refine al_on 24 (.bool true) hsub rfl (by kernel_rfl) (by kernel_rfl) (fun w hI => s_geq rfl rfl (fun _ => ⟨rfl, Below.refl _ _⟩) (fun h => absurd h22 h)) ?_
            refine al_on 25 (.bool true) hsub rfl (by kernel_rfl) (by kernel_rfl) (fun w hI => s_pure (.bool true) (by kernel_rfl) ⟨rfl, Below.refl _ _⟩) ?_
            refine alp 26 (.bool true) hsub rfl (by kernel_rfl) (fun _ => (by kernel_rfl)) ?_
            refine any_end (by kernel_rfl) (fun w hI => ?_)
            refine wp_condT rfl (wp_seq (rgn (by kernel_rfl) (pu (iv 13) (by kernel_rfl) (seq_nil (wp_ret ?_)))))
            exact ⟨iv 13, Ret.r1 rfl rfl, ⟨by rw [ref_no (fun h => by first | exact absurd (h.o3 _ (mem_of_get hx31)) (by assumption) | (have := h.a3 _ _ _ hx38 (by rw [show k2 - 1 + 1 = k2 by omega]; exact hx31); omega))], hI.below⟩⟩
           ·refine al_on 24 (.bool false) hsub rfl (by kernel_rfl) (by kernel_rfl) (fun w hI => s_geq rfl rfl (fun h => absurd h h22) (fun _ => ⟨rfl, Below.refl _ _⟩)) ?_
            refine al_on 25 (.bool false) hsub rfl (by kernel_rfl) (by kernel_rfl) (fun w hI => s_pure (.bool false) (by kernel_rfl) ⟨rfl, Below.refl _ _⟩) ?_
            refine alp 26 (.bool false) hsub rfl (by kernel_rfl) (fun _ => (by kernel_rfl)) ?_
            refine any_end (by kernel_rfl) (fun w hI => ?_)
            refine wp_condF rfl (wp_skip (rgn (by kernel_rfl) (pu (iv (k2 : Int)) (by kernel_rfl) (seq_c (s_add rfl rfl (by omega) ?_)))))
            refine pu (iv ((k2 : Int) + 1)) (by kernel_rfl) (seq_nil ?_)
            exact ⟨rfl, _, (by omega), ⟨k2 + 1, ⟨rfl, rfl, trivial⟩, hI.pickL [0] (by decide) rfl, (by omega), (all_step hq2 hx31 ⟨by assumption, fun y h0 hy => by have e := Option.some.inj (hy.symm.trans hx38); rw [e]; omega⟩), rfl⟩⟩
          ·refine al_on 9 (.bool false) hsub rfl (by kernel_rfl) (by kernel_rfl) (fun w hI => s_gtr rfl rfl (fun h => absurd h h21) (fun _ => ⟨rfl, Below.refl _ _⟩)) ?_
           refine al_on 10 (.bool false) hsub rfl (by kernel_rfl) (by kernel_rfl) (fun w hI => s_pure (.bool false) (by kernel_rfl) ⟨rfl, Below.refl _ _⟩) ?_
           refine al_off 11 hsub rfl (by kernel_rfl) (by kernel_rfl) ?_
           refine al_off 12 hsub rfl (by kernel_rfl) (by kernel_rfl) ?_
           refine al_off 13 hsub rfl (by kernel_rfl) (by kernel_rfl) ?_
           refine al_off 14 hsub rfl (by kernel_rfl) (by kernel_rfl) ?_
           refine al_off 15 hsub rfl (by kernel_rfl) (by kernel_rfl) ?_
           refine al_off 16 hsub rfl (by kernel_rfl) (by kernel_rfl) ?_
           refine al_off 17 hsub rfl (by kernel_rfl) (by kernel_rfl) ?_
           refine al_off 18 hsub rfl (by kernel_rfl) (by kernel_rfl) ?_
           refine al_off 19 hsub rfl (by kernel_rfl) (by kernel_rfl) ?_
           refine al_off 20 hsub rfl (by kernel_rfl) (by kernel_rfl) ?_
           refine al_off 21 hsub rfl (by kernel_rfl) (by kernel_rfl) ?_
           refine al_off 22 hsub rfl (by kernel_rfl) (by kernel_rfl) ?_
           refine al_off 23 hsub rfl (by kernel_rfl) (by kernel_rfl) ?_
           refine al_off 24 hsub rfl (by kernel_rfl) (by kernel_rfl) ?_
           refine al_on 25 (.bool false) hsub rfl (by kernel_rfl) (by kernel_rfl) (fun w hI => s_pure (.bool false) (by kernel_rfl) ⟨rfl, Below.refl _ _⟩) ?_
           refine alp 26 (.bool false) hsub rfl (by kernel_rfl) (fun _ => (by kernel_rfl)) ?_
           refine any_end (by kernel_rfl) (fun w hI => ?_)
           refine wp_condF rfl (wp_skip (rgn (by kernel_rfl) (pu (iv (k2 : Int)) (by kernel_rfl) (seq_c (s_add rfl rfl (by omega) ?_)))))
           refine pu (iv ((k2 : Int) + 1)) (by kernel_rfl) (seq_nil ?_)
           exact ⟨rfl, _, (by omega), ⟨k2 + 1, ⟨rfl, rfl, trivial⟩, hI.pickL [0] (by decide) rfl, (by omega), (all_step hq2 hx31 ⟨by assumption, fun y h0 hy => by omega⟩), rfl⟩⟩
         ·refine al_light 6 (.bool true) hsub rfl (by kernel_rfl) (fun w hI => s_neq rfl rfl (fun _ => ⟨rfl, Below.refl _ _⟩) (fun h => absurd h h20)) ?_
          refine alp 7 (.bool true) hsub rfl (by kernel_rfl) (fun _ => (by kernel_rfl)) ?_
          refine al_off 8 hsub rfl (by kernel_rfl) (by kernel_rfl) ?_
          refine al_off 9 hsub rfl (by kernel_rfl) (by kernel_rfl) ?_
          refine al_off 10 hsub rfl (by kernel_rfl) (by kernel_rfl) ?_
          refine al_off 11 hsub rfl (by kernel_rfl) (by kernel_rfl) ?_
          refine al_off 12 hsub rfl (by kernel_rfl) (by kernel_rfl) ?_
          refine al_off 13 hsub rfl (by kernel_rfl) (by kernel_rfl) ?_
          refine al_off 14 hsub rfl (by kernel_rfl) (by kernel_rfl) ?_
          refine al_off 15 hsub rfl (by kernel_rfl) (by kernel_rfl) ?_
          refine al_off 16 hsub rfl (by kernel_rfl) (by kernel_rfl) ?_
          refine al_off 17 hsub rfl (by kernel_rfl) (by kernel_rfl) ?_
          refine al_off 18 hsub rfl (by kernel_rfl) (by kernel_rfl) ?_
          refine al_off 19 hsub rfl (by kernel_rfl) (by kernel_rfl) ?_
          refine al_off 20 hsub rfl (by kernel_rfl) (by kernel_rfl) ?_
          refine al_off 21 hsub rfl (by kernel_rfl) (by kernel_rfl) ?_
          refine al_off 22 hsub rfl (by kernel_rfl) (by kernel_rfl) ?_
          refine al_off 23 hsub rfl (by kernel_rfl) (by kernel_rfl) ?_
          refine al_off 24 hsub rfl (by kernel_rfl) (by kernel_rfl) ?_
          refine al_off 25 hsub rfl (by kernel_rfl) (by kernel_rfl) ?_
          refine alp 26 (.bool true) hsub rfl (by kernel_rfl) (fun _ => (by kernel_rfl)) ?_
          refine any_end (by kernel_rfl) (fun w hI => ?_)
          refine wp_condT rfl (wp_seq (rgn (by kernel_rfl) (pu (iv 13) (by kernel_rfl) (seq_nil (wp_ret ?_)))))
          exact ⟨iv 13, Ret.r1 rfl rfl, ⟨by rw [ref_no (fun h => by first | exact absurd (h.o3 _ (mem_of_get hx31)) (by assumption) | omega)], hI.below⟩⟩
        ·intro h23
         refine seq_nil (wp_condF rfl (wp_exit ?_))
         refine wp_seq (rgn (by kernel_rfl) (seq_c (s_loadK hI 0 6 [iv pl.lo, iv pl.hi, .slice pA1 pn1 pc1, .slice pA2 pn2 pc2, .slice pA3 pn3 pc3, iv pl.geese] Tryz.isAgg28 Tryz.sizeOf28 rfl rfl rfl rfl ?_)))
         refine seq_c (s_callNew hI 64 [.agg #[iv pl.lo, iv pl.hi, .slice pA1 pn1 pc1, .slice pA2 pn2 pc2, .slice pA3 pn3 pc3, iv pl.geese]] (by kernel_rfl) (sources_c _ pl pA1 pn1 pc1 pA2 pn2 pc2 pA3 pn3 pc3 (hP.inv0 hI) (Small.mk (by omega) (by omega) (by omega))) ?_)
         intro g44 c45 cl46 w hI r47
         have r47 : Row 1 g44 (srcsOf pl).length c45 cl46 (flat eInt (srcsOf pl)) := r47
         refine pu (slv g44 (srcsOf pl).length c45) (by kernel_rfl) (seq_nil (wp_seq (wp_seq (rgn (by kernel_rfl) (pu (iv 0) (by kernel_rfl) (seq_nil (wp_block ?_)))))))
         have hsl := srcs_len (p := pl) (Small.mk (by omega) (by omega) (by omega))
         refine wp_loop (fun m ρ w => ∃ (k3 : Nat), Agree ρ [(6, slv g44 (srcsOf pl).length c45), (7, iv (k3 : Int))] ∧ Inv none w0 w [(g44, blk cl46 3), (some b1, blk [iv pl.lo, iv pl.hi, .slice pA1 pn1 pc1, .slice pA2 pn2 pc2, .slice pA3 pn3 pc3, iv pl.geese] 28)] ∧ (k3 ≤ (srcsOf pl).length) ∧ (((srcsOf pl).take k3).Nodup) ∧ m = (srcsOf pl).length - k3) (m := (srcsOf pl).length - 0) ⟨0, ⟨rfl, rfl, trivial⟩, hI.pickL [0, 1] (by decide) rfl, (by omega), List.nodup_nil, rfl⟩ ?_
         rintro m ρ w ⟨k3, hag, hI, hk3, hnd, hm⟩
         obtain ⟨ρ, rfl⟩ := hag.form; clear hag
         refine wp_seq (wp_seq (rgn (by kernel_rfl) (pu (iv (k3 : Int)) (by kernel_rfl) (pu (slv g44 (srcsOf pl).length c45) (by kernel_rfl) (pu (iv (((srcsOf pl).length : Nat) : Int)) (by kernel_rfl) (seq_c (s_lss rfl rfl ?_ ?_)))))))
         ·intro h24
          refine seq_nil (wp_condT rfl (wp_skip (wp_seq (wp_block ?_))))
          refine wp_seq (wp_drawn2 hI [0, 1] (by decide) rfl (by kernel_rfl) (by kernel_rfl) ?_)
          intro hsub
          refine alp 0 (slv g44 (srcsOf pl).length c45) hsub rfl (by kernel_rfl) (fun _ => (by kernel_rfl)) ?_
          refine alp 1 (iv (k3 : Int)) hsub rfl (by kernel_rfl) (fun _ => (by kernel_rfl)) ?_
          obtain ⟨x48, hx49⟩ := get_lt (l := srcsOf pl) (i := k3) (by omega)
          obtain ⟨b50, rfl, he51⟩ := r47.at_ eInt_len (by decide) hx49
          refine al_light 2 (.slice ((some b50).map fun b => ⟨b, 0, none⟩) k3 c45) hsub rfl (by kernel_rfl) (fun w hI => s_sliceHi k3 Tryz.underlying41 Tryz.sizeOf3 rfl rfl (Nat.le_trans (by omega) r47.cap) ⟨rfl, Below.refl _ _⟩) ?_
          refine alp 3 (slv (some b50) (srcsOf pl).length c45) hsub rfl (by kernel_rfl) (fun _ => (by kernel_rfl)) ?_
          refine alp 4 (iv (k3 : Int)) hsub rfl (by kernel_rfl) (fun _ => (by kernel_rfl)) ?_
          refine al_light 5 (.pointer (some ⟨b50, k3 * 1, none⟩)) hsub rfl (by kernel_rfl) (fun w hI => s_indexR k3 Tryz.underlying41 Tryz.sizeOf3 rfl rfl rfl (by omega) ⟨rfl, Below.refl _ _⟩) ?_
          refine al_light 6 (iv x48) hsub rfl (by kernel_rfl) (fun w hI => s_loadR1 hI 0 (iv x48) Tryz.isAgg3 rfl rfl (he51 0 _ rfl) ⟨rfl, Below.refl _ _⟩) ?_
          rcases Bool.eq_false_or_eq_true (decide (x48 ∈ ((srcsOf pl).take k3))) with h25 | h25
          ·refine al_light 7 (.bool true) hsub rfl (by kernel_rfl) (fun w hI => s_call 59 [.slice ((some b50).map fun b => ⟨b, 0, none⟩) k3 c45, iv x48] (by kernel_rfl) (Has_c _ ((srcsOf pl).take k3) ((some b50).map fun b => ⟨b, 0, none⟩) k3 c45 x48 (by rw [List.length_take]; omega) (by omega) (hI.rowCells 0 rfl (r47.cut eInt_len (by decide) k3 (by omega)))) (fun v' w' h => ⟨h.1.trans (congrArg Value.bool h25), h.2⟩)) ?_
           refine any_end (by kernel_rfl) (fun w hI => ?_)
           refine wp_condT rfl (wp_seq (rgn (by kernel_rfl) (pu (iv 13) (by kernel_rfl) (seq_nil (wp_ret ?_)))))
           exact ⟨iv 13, Ret.r1 rfl rfl, ⟨by rw [ref_no (fun h => nodup_at hx49 h.nd (of_decide_eq_true (by assumption)))], hI.below⟩⟩
          ·refine al_light 7 (.bool false) hsub rfl (by kernel_rfl) (fun w hI => s_call 59 [.slice ((some b50).map fun b => ⟨b, 0, none⟩) k3 c45, iv x48] (by kernel_rfl) (Has_c _ ((srcsOf pl).take k3) ((some b50).map fun b => ⟨b, 0, none⟩) k3 c45 x48 (by rw [List.length_take]; omega) (by omega) (hI.rowCells 0 rfl (r47.cut eInt_len (by decide) k3 (by omega)))) (fun v' w' h => ⟨h.1.trans (congrArg Value.bool h25), h.2⟩)) ?_
           refine any_end (by kernel_rfl) (fun w hI => ?_)
           refine wp_condF rfl (wp_skip (rgn (by kernel_rfl) (pu (iv (k3 : Int)) (by kernel_rfl) (seq_c (s_add rfl rfl (by omega) ?_)))))
           refine pu (iv ((k3 : Int) + 1)) (by kernel_rfl) (seq_nil ?_)
           exact ⟨rfl, _, (by omega), ⟨k3 + 1, ⟨rfl, rfl, trivial⟩, hI.pickL [0, 1] (by decide) rfl, (by omega), (nodup_step hx49 hnd (by assumption)), rfl⟩⟩
         ·intro h26
          refine seq_nil (wp_condF rfl (wp_exit ?_))
          refine wp_seq (rgn (by kernel_rfl) (pu (iv 0) (by kernel_rfl) (seq_nil (wp_ret ?_))))
          have z1 := q1_ok hq0 (by omega); have z2 := q1_ok hq1 (by omega); have z3 := q1_ok hq2 (by omega)
          rw [List.take_of_length_le (by omega)] at hnd
          exact ⟨iv 0, Ret.r1 rfl rfl, ⟨by rw [ref_yes ⟨by assumption, by simp_all [inB], by simp_all [inB], by omega, by omega, by omega, z1.1, z1.2, z2.1, z2.2, z3.1, z3.2, hnd⟩], hI.below⟩⟩
  ·intro h27 w hI
   refine puo (.bool true) ⟨(by kernel_rfl), (by kernel_rfl)⟩ (pu (.bool true) (by kernel_rfl) (pu (.bool true) (by kernel_rfl) (of_ (by kernel_rfl) (of_ (by kernel_rfl) (of_ (by kernel_rfl) (of_ (by kernel_rfl) (pu (.bool true) (by kernel_rfl) (pu (.bool true) (by kernel_rfl) (of_ (by kernel_rfl) ?_)))))))))
   refine of_ (by kernel_rfl) (of_ (by kernel_rfl) (of_ (by kernel_rfl) (pu (.bool true) (by kernel_rfl) (pu (.bool true) (by kernel_rfl) (of_ (by kernel_rfl) (of_ (by kernel_rfl) (of_ (by kernel_rfl) (of_ (by kernel_rfl) (pu (.bool true) (by kernel_rfl) ?_)))))))))
   refine seq_nil (wp_condT rfl (wp_seq (rgn (by kernel_rfl) (pu (iv 13) (by kernel_rfl) (seq_nil (wp_ret ?_))))))
   exact ⟨iv 13, Ret.r1 rfl rfl, ⟨by rw [ref_no (fun h => by have q1 := h.sown; have q2 := h.g0; have q3 := h.g1; have q4 := h.l1; have q5 := h.l2; have q6 := h.l3; first | omega | (simp_all [inB]; done) | (simp_all [inB]; omega))], hI.below⟩⟩
 ·intro h28 w hI
  refine pu (.bool true) (by kernel_rfl) (pu (.bool true) (by kernel_rfl) (of_ (by kernel_rfl) (of_ (by kernel_rfl) (of_ (by kernel_rfl) (of_ (by kernel_rfl) (pu (.bool true) (by kernel_rfl) (pu (.bool true) (by kernel_rfl) (of_ (by kernel_rfl) (of_ (by kernel_rfl) ?_)))))))))
  refine of_ (by kernel_rfl) (of_ (by kernel_rfl) (pu (.bool true) (by kernel_rfl) (pu (.bool true) (by kernel_rfl) (of_ (by kernel_rfl) (of_ (by kernel_rfl) (of_ (by kernel_rfl) (of_ (by kernel_rfl) (pu (.bool true) (by kernel_rfl) (pu (.bool true) (by kernel_rfl) ?_)))))))))
  refine of_ (by kernel_rfl) (of_ (by kernel_rfl) (of_ (by kernel_rfl) (of_ (by kernel_rfl) (pu (.bool true) (by kernel_rfl) (seq_nil (wp_condT rfl (wp_seq (rgn (by kernel_rfl) (pu (iv 13) (by kernel_rfl) ?_)))))))))
  refine seq_nil (wp_ret ?_)
  exact ⟨iv 13, Ret.r1 rfl rfl, ⟨by rw [ref_no (fun h => by have q1 := h.sown; have q2 := h.g0; have q3 := h.g1; have q4 := h.l1; have q5 := h.l2; have q6 := h.l3; first | omega | (simp_all [inB]; done) | (simp_all [inB]; omega))], hI.below⟩⟩

end Go.K
