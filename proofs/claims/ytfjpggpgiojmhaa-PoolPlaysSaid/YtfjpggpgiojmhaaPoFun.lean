/- A function against nil. -/
import Derived.Test.YtfjpggpgiojmhaaPoTop
namespace Go.Proofs.Ytfjpggpgiojmhaa
open Go.RowKit

theorem eqIn_func (d : Nat) (f : Fn) (a b : Array Value) (w : World) : (Op.equalIn (d + 1) 37 (.func f a b) .nilFunc).run Try.prog w = .ok false w := by
  simp [Op.equalIn, run_underlying Try.underlying37]
theorem eqIn_nil (d : Nat) (w : World) : (Op.equalIn (d + 1) 37 .nilFunc .nilFunc).run Try.prog w = .ok true w := by
  simp [Op.equalIn, run_underlying Try.underlying37]
theorem depth_eq : Op.maxDepth = 9999 + 1 := rfl
theorem func_eq (f : Fn) (a b : Array Value) (w : World) : (binOp .eql 37 (.func f a b) .nilFunc).run Try.prog w = .ok (.bool false) w := by
  simp only [binOp, Op.equal, depth_eq, Sem.run_bind, Sem.run_pure, eqIn_func, Result.andThen_ok]
theorem func_ne (f : Fn) (a b : Array Value) (w : World) : (binOp .neq 37 (.func f a b) .nilFunc).run Try.prog w = .ok (.bool true) w := by
  simp only [binOp, Op.equal, depth_eq, Sem.run_bind, Sem.run_pure, eqIn_func, Result.andThen_ok, Bool.not_false]
theorem nil_eq (w : World) : (binOp .eql 37 .nilFunc .nilFunc).run Try.prog w = .ok (.bool true) w := by
  simp only [binOp, Op.equal, depth_eq, Sem.run_bind, Sem.run_pure, eqIn_nil, Result.andThen_ok]
theorem nil_ne (w : World) : (binOp .neq 37 .nilFunc .nilFunc).run Try.prog w = .ok (.bool false) w := by
  simp only [binOp, Op.equal, depth_eq, Sem.run_bind, Sem.run_pure, eqIn_nil, Result.andThen_ok, Bool.not_true]
end Go.Proofs.Ytfjpggpgiojmhaa
