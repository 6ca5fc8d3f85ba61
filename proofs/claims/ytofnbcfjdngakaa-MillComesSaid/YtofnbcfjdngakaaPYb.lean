/- MillSure: what is sure by every sharing that is accepted; without an idle hour the same hours are served. No condition. -/
import Derived.Test.YtofnbcfjdngakaaPYa
namespace Go.K
open Go.RowKit
set_option linter.unusedVariables false
set_option linter.unusedSimpArgs false
theorem okM_okC {H : Nat} {l : List Cm} (ok : okM (H : Int) l) : okC l H := fun d hd => by
  have := (okM_iff.1 ok).2.2.1 d hd
  unfold vCm at this
  rw [Int.toNat_natCast] at this
  exact ⟨this.1.2.1.1, this.2⟩
theorem hs_bd {H : Nat} {l : List Cm} (ok : okM (H : Int) l) {R hs : List Int} (f : filld l H R hs) : ∀ x ∈ hs, 0 ≤ x ∧ x ≤ 24 := fun x hx => by
  obtain ⟨j, hj⟩ := List.mem_iff_getElem?.1 hx
  have hl : j < l.length := by have := (List.getElem?_eq_some_iff.1 hj).1; have := f.2.2.1; omega
  have e := f.2.2.2.1 j hl
  rw [hj] at e; injection e with e
  have hc : l[j]? = some l[j] := List.getElem?_eq_getElem hl
  have h1 := (f.2.2.2.2 j _ hc).1
  have h2 := ((okM_iff.1 ok).2.2.1 _ (List.mem_iff_getElem?.2 ⟨j, hc⟩)).1
  unfold vCm at h2
  have := cnt_nn R j
  omega
theorem fam_one {h : Int} {l : List Cm} (ok : okM h l) {i j : Nat} {c d : Cm} (hc : l[i]? = some c) (hd : l[j]? = some d) (e : d.fam = c.fam) : j = i := by
  have a := ix_at ok hc
  have b := ix_at ok hd
  rw [e] at b; omega
theorem okM_clr {H : Nat} {l : List Cm} (ok : okM (H : Int) l) (v : Nat) : okM (H : Int) (l.map (clr v)) := by
  obtain ⟨a, b, c, d⟩ := okM_iff.1 ok
  refine okM_iff.2 ⟨a, by rw [List.length_map]; exact b, fun x hx => ?_, ?_⟩
  · obtain ⟨y, hy, rfl⟩ := List.mem_map.1 hx
    obtain ⟨h1, h2⟩ := c y hy
    unfold vCm at h1
    have := clr_le y.hrs ((2 ^ v : Nat) : Int) h1.2.1.1
    refine ⟨⟨h1.1, ⟨this.1, ?_⟩, h1.2.2⟩, ?_⟩
    · show andNotI y.hrs ((2 ^ v : Nat) : Int) ≤ 16777215; omega
    · show andNotI y.hrs ((2 ^ v : Nat) : Int) < _; omega
  · rw [List.map_map]; exact d
theorem clrs_all (l : List Cm) (v : Nat) : l.map (clrs v (l.map (·.fam))) = l.map (clr v) := by
  refine List.map_congr_left fun c hc => ?_
  unfold clrs
  rw [if_pos (List.mem_map.2 ⟨c, hc, rfl⟩)]
end Go.K
