/- MillSure: what is sure by every sharing that is accepted; without an idle hour the same hours are served. No condition. -/
import Derived.Test.YtofnbcfjdngakaaPYa
namespace Go.K
open Go.RowKit
set_option linter.unusedVariables false
set_option linter.unusedSimpArgs false
theorem okM_okC {H : Nat} {l : List Cm} (ok : okM (H : Int) l) : okC l H := fun d hd => by
  have := (okM_iff.1 ok).2.2.1 d hd
  unfold vCm at this
  rw [Int.toNat_natCast] at this
  exact ⟨this.1.2.1.1, this.2⟩
theorem fam_one {h : Int} {l : List Cm} (ok : okM h l) {i j : Nat} {c d : Cm} (hc : l[i]? = some c) (hd : l[j]? = some d) (e : d.fam = c.fam) : j = i := by
  have a := ix_at ok hc
  have b := ix_at ok hd
  rw [e] at b; omega
end Go.K
