/- MillSure: what is sure by every sharing that is accepted; without an idle hour the same hours are served. No condition. -/
import Derived.Test.YtofnbcfjdngakaaPYa
namespace Go.K
open Go.RowKit
set_option linter.unusedVariables false
set_option linter.unusedSimpArgs false
theorem okM_okC {H : Nat} {l : List Cm} (ok : okM (H : Int) l) : okC l H := fun d hd => by
  have := (okM_iff.1 ok).2.2.1 d hd
  unfold vCm at this
  rw [Int.toNat_natCast] at this
  exact ⟨this.1.2.1.1, this.2⟩
theorem fam_one {h : Int} {l : List Cm} (ok : okM h l) {i j : Nat} {c d : Cm} (hc : l[i]? = some c) (hd : l[j]? = some d) (e : d.fam = c.fam) : j = i := by
  have a := ix_at ok hc
  have b := ix_at ok hd
  rw [e] at b; omega
theorem F44_ok {H : Nat} {l : List Cm} (ok : okM (H : Int) l) {N : Nat} (hN : 2000 ≤ N) {d : List Int} (hd : d.length = l.length) (hb : ∀ x ∈ d, 0 ≤ x ∧ x ≤ 24) : ∃ b, F44 N (H : Int) l d = some (b, 0) ∧ (b = true ↔ Feas l H d) := by
  have hH := ok.1
  have hn := ok.2.1
  have loop : ∀ (m i : Nat), i ≤ d.length → d.length < m + i → F86l1 d m (i : Int) = some 0 := by
    intro m
    induction m with
    | zero => intro i g1 g2; omega
    | succ m ih =>
      intro i g1 g2
      show F86b1 d (F86l1 d m) (i : Int) = _
      unfold F86b1
      by_cases hi : i < d.length
      · have hx : d[i]? = some d[i] := List.getElem?_eq_getElem hi
        have := hb _ (List.mem_iff_getElem?.2 ⟨i, hx⟩)
        rw [if_pos (by omega), gdO_pos (by omega), Int.toNat_natCast, hx, bindO_some, F70_eq, bindO_some, decide_eq_true this, if_pos rfl, ckO_pos (by unfold InR; omega), succ_cast]
        exact ih (i + 1) hi (by omega)
      · rw [if_neg (by omega)]
  have l0 := loop N 0 (by omega) (by omega)
  rw [show ((0 : Nat) : Int) = 0 from rfl] at l0
  obtain ⟨b, eb, hbb⟩ := F87_eq (by omega) (okM_okC ok) hn hd hb (N := N) (by omega)
  unfold F44 F86
  rw [F23_ok ok (by omega), bindO_some, if_pos rfl, if_pos (by omega), l0, bindO_some, if_pos rfl, eb, bindO_some]
  exact ⟨b, rfl, hbb⟩
end Go.K
