import Derived.Test.YtinkdlmimiefaaaGreatPM29
namespace Go.K
open Go.Proofs Go.RowKit
set_option linter.unusedVariables false
theorem sym_ind:∀ (d:Nat) (w0:World) (b0 n c:Nat) (cl:List Value) (l:List Ld) (a q b:Nat) (hg:∀ b,some b0=some b→w0.heap[b]?=some (blk cl 30)) (hr:Row 6 (some b0) n c cl (al eLd l)) (hmax:n≤1000000000) (ha:a < q) (hb:q < b) (hbn:b≤n) (hL:dp l a q) (hR:dp l q b) (hd:b - a≤d),
    bn Tryz.prog 184 [slv (some b0) n c,.int .i64 (a:Int),.int .i64 (q:Int),.int .i64 (b:Int),.func (.func 144) #[] #[]] w0 fun v w=>ex 6 30 (some b0) c n (al eLd (en l a b)) w0 v w:=by
  intro d
  induction d with
  | zero=>intro w0 b0 n c cl l a q b hg hr hmax ha hb hbn hL hR hd; omega
  | succ d ih =>
    intro w0 b0 n c cl l a q b hg hr hmax ha hb hbn hL hR hd
    by_cases h1:q=a+1∨b=q+1
    · exact symOne_c w0 b0 n c cl l a q b hg hr hmax ha hb hbn hL hR h1
    exact symStep_c w0 b0 n c cl l a q b hg hr hmax (by omega) (by omega) hbn hL hR fun w1 cl1 l1 a1 q1 b1 hg1 hr1 k1 k2 k3 k4 k5 k6=>ih w1 b0 n c cl1 l1 a1 q1 b1 hg1 hr1 hmax k1 k2 k3 k5 k6 (by omega)
theorem sym_c (w0:World) (b0 n c:Nat) (cl:List Value) (l:List Ld) (a q b:Nat) (hg:∀ b,some b0=some b→w0.heap[b]?=some (blk cl 30)) (hr:Row 6 (some b0) n c cl (al eLd l)) (hmax:n≤1000000000) (ha:a < q) (hb:q < b) (hbn:b≤n) (hL:dp l a q) (hR:dp l q b) :
    bn Tryz.prog 184 [slv (some b0) n c,.int .i64 (a:Int),.int .i64 (q:Int),.int .i64 (b:Int),.func (.func 144) #[] #[]] w0 fun v w=>ex 6 30 (some b0) c n (al eLd (en l a b)) w0 v w :=
  sym_ind (b - a) w0 b0 n c cl l a q b hg hr hmax ha hb hbn hL hR (Nat.le_refl _)
end Go.K
