/-
  What package planes does: the table of operations.
-/
import Derived.Test.YtcmdglfjnepahaaGreatDoorTxt8
import Derived.Test.YtcmdglfjnepahaaGreatDoorTxt4
import Derived.Laws.EntriesVeiled
set_option linter.unusedSimpArgs false
set_option linter.unusedVariables false
namespace Go.Proofs.YtcmdglfjnepahaaGreatDoor
open Go.RowKit

def fnV (n : Nat) : Value := .func (.func n) #[] #[]

set_option maxHeartbeats 1000000 in
set_option maxRecDepth 100000 in
theorem find_1 (w : World) :
    Calls Tryz.prog 23 #[.int .i64 1] w fun e w' => e = .returned (.tuple #[.agg #[.int .i64 1, .func (.func 67) #[] #[], .func (.func 68) #[] #[]], .bool true]) ∧ Below w.heap.size w w' := by
  go_enter Tryz.func23, Tryz.ntmps23
  go_wp2
  refine wp_loop_rounds 1 ?_
  rw [rounds_succ]
  go_wp2
  exact bodyPost_ret (v := .tuple #[.agg #[.int .i64 1, .func (.func 67) #[] #[], .func (.func 68) #[] #[]], .bool true]) (by simp [results, Tryz.results23, go_sem]) rfl ⟨rfl, ((((Below.refl w.heap.size w).alloc (Nat.le_refl _) _).alloc (by simp) _).alloc (by simp; omega) _)⟩

set_option maxHeartbeats 1000000 in
set_option maxRecDepth 100000 in
theorem find_2 (w : World) :
    Calls Tryz.prog 23 #[.int .i64 2] w fun e w' => e = .returned (.tuple #[.agg #[.int .i64 2, .func (.func 67) #[] #[], .func (.func 69) #[] #[]], .bool true]) ∧ Below w.heap.size w w' := by
  go_enter Tryz.func23, Tryz.ntmps23
  go_wp2
  refine wp_loop_rounds 2 ?_
  rw [rounds_succ]
  go_wp2
  rw [rounds_succ]
  go_wp2
  exact bodyPost_ret (v := .tuple #[.agg #[.int .i64 2, .func (.func 67) #[] #[], .func (.func 69) #[] #[]], .bool true]) (by simp [results, Tryz.results23, go_sem]) rfl ⟨rfl, (((((Below.refl w.heap.size w).alloc (Nat.le_refl _) _).alloc (by simp) _).alloc (by simp; omega) _).alloc (by simp; omega) _)⟩

set_option maxHeartbeats 1000000 in
set_option maxRecDepth 100000 in
theorem find_3 (w : World) :
    Calls Tryz.prog 23 #[.int .i64 3] w fun e w' => e = .returned (.tuple #[.agg #[.int .i64 3, .func (.func 67) #[] #[], .func (.func 70) #[] #[]], .bool true]) ∧ Below w.heap.size w w' := by
  go_enter Tryz.func23, Tryz.ntmps23
  go_wp2
  refine wp_loop_rounds 3 ?_
  rw [rounds_succ]
  go_wp2
  rw [rounds_succ]
  go_wp2
  rw [rounds_succ]
  go_wp2
  exact bodyPost_ret (v := .tuple #[.agg #[.int .i64 3, .func (.func 67) #[] #[], .func (.func 70) #[] #[]], .bool true]) (by simp [results, Tryz.results23, go_sem]) rfl ⟨rfl, ((((((Below.refl w.heap.size w).alloc (Nat.le_refl _) _).alloc (by simp) _).alloc (by simp; omega) _).alloc (by simp; omega) _).alloc (by simp; omega) _)⟩

set_option maxHeartbeats 1000000 in
set_option maxRecDepth 100000 in
theorem find_4 (w : World) :
    Calls Tryz.prog 23 #[.int .i64 4] w fun e w' => e = .returned (.tuple #[.agg #[.int .i64 4, .func (.func 71) #[] #[], .func (.func 72) #[] #[]], .bool true]) ∧ Below w.heap.size w w' := by
  go_enter Tryz.func23, Tryz.ntmps23
  go_wp2
  refine wp_loop_rounds 4 ?_
  rw [rounds_succ]
  go_wp2
  rw [rounds_succ]
  go_wp2
  rw [rounds_succ]
  go_wp2
  rw [rounds_succ]
  go_wp2
  exact bodyPost_ret (v := .tuple #[.agg #[.int .i64 4, .func (.func 71) #[] #[], .func (.func 72) #[] #[]], .bool true]) (by simp [results, Tryz.results23, go_sem]) rfl ⟨rfl, (((((((Below.refl w.heap.size w).alloc (Nat.le_refl _) _).alloc (by simp) _).alloc (by simp; omega) _).alloc (by simp; omega) _).alloc (by simp; omega) _).alloc (by simp; omega) _)⟩

set_option maxHeartbeats 1000000 in
set_option maxRecDepth 100000 in
theorem find_5 (w : World) :
    Calls Tryz.prog 23 #[.int .i64 5] w fun e w' => e = .returned (.tuple #[.agg #[.int .i64 5, .func (.func 67) #[] #[], .func (.func 73) #[] #[]], .bool true]) ∧ Below w.heap.size w w' := by
  go_enter Tryz.func23, Tryz.ntmps23
  go_wp2
  refine wp_loop_rounds 5 ?_
  rw [rounds_succ]
  go_wp2
  rw [rounds_succ]
  go_wp2
  rw [rounds_succ]
  go_wp2
  rw [rounds_succ]
  go_wp2
  rw [rounds_succ]
  go_wp2
  exact bodyPost_ret (v := .tuple #[.agg #[.int .i64 5, .func (.func 67) #[] #[], .func (.func 73) #[] #[]], .bool true]) (by simp [results, Tryz.results23, go_sem]) rfl ⟨rfl, ((((((((Below.refl w.heap.size w).alloc (Nat.le_refl _) _).alloc (by simp) _).alloc (by simp; omega) _).alloc (by simp; omega) _).alloc (by simp; omega) _).alloc (by simp; omega) _).alloc (by simp; omega) _)⟩

set_option maxHeartbeats 1000000 in
set_option maxRecDepth 100000 in
theorem find_6 (w : World) :
    Calls Tryz.prog 23 #[.int .i64 6] w fun e w' => e = .returned (.tuple #[.agg #[.int .i64 6, .func (.func 67) #[] #[], .func (.func 74) #[] #[]], .bool true]) ∧ Below w.heap.size w w' := by
  go_enter Tryz.func23, Tryz.ntmps23
  go_wp2
  refine wp_loop_rounds 6 ?_
  rw [rounds_succ]
  go_wp2
  rw [rounds_succ]
  go_wp2
  rw [rounds_succ]
  go_wp2
  rw [rounds_succ]
  go_wp2
  rw [rounds_succ]
  go_wp2
  rw [rounds_succ]
  go_wp2
  exact bodyPost_ret (v := .tuple #[.agg #[.int .i64 6, .func (.func 67) #[] #[], .func (.func 74) #[] #[]], .bool true]) (by simp [results, Tryz.results23, go_sem]) rfl ⟨rfl, (((((((((Below.refl w.heap.size w).alloc (Nat.le_refl _) _).alloc (by simp) _).alloc (by simp; omega) _).alloc (by simp; omega) _).alloc (by simp; omega) _).alloc (by simp; omega) _).alloc (by simp; omega) _).alloc (by simp; omega) _)⟩
end Go.Proofs.YtcmdglfjnepahaaGreatDoor
