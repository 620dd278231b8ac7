/-
  Two prefixes are compared: what '==' and '!=' give. No condition.
-/
import Derived.Test.YtbfkpapankgndaaAwake
namespace Go.Proofs.Ytbfkpapankgndaa
open Go.RowKit

theorem run_eqIn32 (a b c d : Int) (W : World) : (Op.equalIn 10000 32 (.agg #[.int .u32 a, .int .i64 b]) (.agg #[.int .u32 c, .int .i64 d])).run Try.prog W = .ok (decide ((a, b) = (c, d))) W := by
  by_cases h1 : a = c
  · by_cases h2 : b = d
    · simp [go_sem, h1, h2]
    · simp [go_sem, h1, h2]
  · simp [go_sem, h1]
theorem run_eql32 (a b c d : Int) (W : World) : (binOp .eql 32 (.agg #[.int .u32 a, .int .i64 b]) (.agg #[.int .u32 c, .int .i64 d])).run Try.prog W = .ok (.bool (decide ((a, b) = (c, d)))) W := by
  rw [run_eql_struct, run_eqIn32]; rfl
theorem run_neq32 (a b c d : Int) (W : World) : (binOp .neq 32 (.agg #[.int .u32 a, .int .i64 b]) (.agg #[.int .u32 c, .int .i64 d])).run Try.prog W = .ok (.bool (!decide ((a, b) = (c, d)))) W := by
  rw [run_neq_struct, run_eqIn32]; rfl
end Go.Proofs.Ytbfkpapankgndaa
