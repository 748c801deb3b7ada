/- VmTwos: what each sign makes of two numbers. -/
import Derived.Test.YtdbnfafafhdolaaLTwo4
import Derived.Test.YtdbnfafafhdolaaLTwo5
import Derived.Test.YtdbnfafafhdolaaLTwo6
namespace Go.Proofs.Ytdbnfafafhdolaa
open Go Go.RowKit
set_option linter.unusedVariables false

theorem ltwos_any (op a b : Int) (w : World) (hop : I64 op) (ha : I64 a) (hb : I64 b) :
    Calls Try.prog 4 #[.int .i64 op, .int .i64 a, .int .i64 b] w fun e w' => e = .returned (.bool true) ∧ Below w.heap.size w w' := by
  have h : op % 6 = 0 ∨ op % 6 = 1 ∨ op % 6 = 2 ∨ op % 6 = 3 ∨ op % 6 = 4 ∨ op % 6 = 5 := by omega
  rcases h with h | h | h | h | h | h
  · exact ltwos_2 op a b w ha hb h
  · exact ltwos_3 op a b w ha hb h
  · exact ltwos_4 op a b w ha hb h
  · exact ltwos_5 op a b w ha hb h
  · exact ltwos_6 op a b w ha hb h
  · exact ltwos_7 op a b w ha hb h
end Go.Proofs.Ytdbnfafafhdolaa
