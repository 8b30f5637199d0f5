/- Two cells that are one and the same, compared. -/
import Derived.Test.YtgkjkmdenmighaaRows
import Derived.Laws.StructEq
import Derived.WalkKit
import Derived.KernelRfl
namespace Go.Proofs.Ytgkjkmdenmighaa
open Go.RowKit
theorem cell_guard : Try.prog.eqGuardType Try.prog.depth 55 = false := by kernel_rfl
theorem cell_eql (a b c : Int) (w : World) : (binOp .eql 55 (.agg #[.int .u64 a, .int .u32 b, .int .i64 c]) (.agg #[.int .u64 a, .int .u32 b, .int .i64 c])).run Try.prog w = .ok (.bool true) w := by
  have u3 := Try.underlying3
  have a3 := Try.isAgg3
  have z3 := Try.sizeOf3
  have u4 := Try.underlying22
  have a4 := Try.isAgg22
  have z4 := Try.sizeOf22
  have u5 := Try.underlying51
  have a5 := Try.isAgg51
  have z5 := Try.sizeOf51
  have hS : Try.prog.underlying 55 = some (.struct (Try.prog.fieldsOf 55)) := by kernel_rfl
  have hp : Try.prog.stoodInHeld 55 = false := by kernel_rfl
  rw [run_eql_struct, show (10000 : Nat) = 9999 + 1 from rfl, run_equalIn_agg w 9999 55 _ _ hS hp]
  simp only [Program.fieldsOf, Try.underlying55]
  go_simp
theorem cell_in (a b c : Int) (w : World) : (Op.equalIn 10000 55 (.agg #[.int .u64 a, .int .u32 b, .int .i64 c]) (.agg #[.int .u64 a, .int .u32 b, .int .i64 c])).run Try.prog w = .ok true w := by
  have h := cell_eql a b c w
  rw [run_eql_struct] at h
  cases hx : (Op.equalIn 10000 55 (.agg #[.int .u64 a, .int .u32 b, .int .i64 c]) (.agg #[.int .u64 a, .int .u32 b, .int .i64 c])).run Try.prog w <;> rw [hx] at h <;> simp_all [Result.andThen]
theorem cell_neq (a b c : Int) (w : World) : (binOp .neq 55 (.agg #[.int .u64 a, .int .u32 b, .int .i64 c]) (.agg #[.int .u64 a, .int .u32 b, .int .i64 c])).run Try.prog w = .ok (.bool false) w := by
  have h := cell_eql a b c w
  rw [run_eql_struct] at h
  rw [run_neq_struct]
  cases hx : (Op.equalIn 10000 55 (.agg #[.int .u64 a, .int .u32 b, .int .i64 c]) (.agg #[.int .u64 a, .int .u32 b, .int .i64 c])).run Try.prog w <;> rw [hx] at h <;> simp_all [Result.andThen]
end Go.Proofs.Ytgkjkmdenmighaa
