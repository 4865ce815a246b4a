/-
  DERIVED. Layer 1: contracts of words.Two at Add, Sub, Mul, Div, Mod; of words.One at Neg, Not.
-/
import Derived.Test.YtnlodnkdppgddaaDoorOps
namespace Go.Proofs.YtnlodnkdppgddaaDoor
open Go.RowKit

set_option maxHeartbeats 1000000 in
theorem two_add (a b : Int) (w : World) :
    Calls Tryd.prog 13 #[.int .i64 5, .int .i64 a, .int .i64 b] w (Gives2 (wrap64 (a + b)) (0) w) := by
  have hmf := mkf
  have he1 := eqlFN
  have he2 := eqlNN
  go_enter Tryd.func13, Tryd.ntmps13
  go_wp2
  all_goals go_ret2
  all_goals exact gives2_of rfl (by first | rfl | simp_all) (below3 _ _ _ _)

set_option maxHeartbeats 1000000 in
theorem two_sub (a b : Int) (w : World) :
    Calls Tryd.prog 13 #[.int .i64 6, .int .i64 a, .int .i64 b] w (Gives2 (wrap64 (a - b)) (0) w) := by
  have hmf := mkf
  have he1 := eqlFN
  have he2 := eqlNN
  go_enter Tryd.func13, Tryd.ntmps13
  go_wp2
  all_goals go_ret2
  all_goals exact gives2_of rfl (by first | rfl | simp_all) (below3 _ _ _ _)

set_option maxHeartbeats 1000000 in
theorem two_mul (a b : Int) (w : World) :
    Calls Tryd.prog 13 #[.int .i64 7, .int .i64 a, .int .i64 b] w (Gives2 (wrap64 (a * b)) (0) w) := by
  have hmf := mkf
  have he1 := eqlFN
  have he2 := eqlNN
  go_enter Tryd.func13, Tryd.ntmps13
  go_wp2
  all_goals go_ret2
  all_goals exact gives2_of rfl (by first | rfl | (simp_all [wrap64_zero])) (below3 _ _ _ _)

set_option maxHeartbeats 1000000 in
theorem two_div (a b : Int) (w : World) (hb : b ≠ 0) :
    Calls Tryd.prog 13 #[.int .i64 8, .int .i64 a, .int .i64 b] w (Gives2 (wrap64 (a.tdiv b)) (0) w) := by
  have hmf := mkf
  have he1 := eqlFN
  have he2 := eqlNN
  go_enter Tryd.func13, Tryd.ntmps13
  go_wp2
  all_goals go_ret2
  all_goals exact gives2_of rfl (rfl) (below3 _ _ _ _)

set_option maxHeartbeats 1000000 in
theorem two_mod (a b : Int) (w : World) (hb : b ≠ 0) :
    Calls Tryd.prog 13 #[.int .i64 9, .int .i64 a, .int .i64 b] w (Gives2 (a.tmod b) (0) w) := by
  have hmf := mkf
  have he1 := eqlFN
  have he2 := eqlNN
  go_enter Tryd.func13, Tryd.ntmps13
  go_wp2
  all_goals go_ret2
  all_goals exact gives2_of rfl (rfl) (below3 _ _ _ _)

set_option maxHeartbeats 1000000 in
theorem two_div0 (op a : Int) (w : World) (h : op = 8 ∨ op = 9) :
    Calls Tryd.prog 13 #[.int .i64 op, .int .i64 a, .int .i64 0] w (Gives2 0 12 w) := by
  rcases h with rfl | rfl
  all_goals
    go_enter Tryd.func13, Tryd.ntmps13
    go_wp2
    go_ret2
    exact gives2_of rfl rfl (below2 _ _ _)

set_option maxHeartbeats 1000000 in
theorem one_neg (a : Int) (w : World) :
    Calls Tryd.prog 11 #[.int .i64 3, .int .i64 a] w (Gives2 (wrap64 (-a)) (0) w) := by
  have hmf := mkf
  have he1 := eqlFN
  have he2 := eqlNN
  go_enter Tryd.func11, Tryd.ntmps11
  go_wp2
  all_goals go_ret2
  all_goals exact gives2_of rfl (rfl) (below2 _ _ _)

set_option maxHeartbeats 1000000 in
theorem one_not (a : Int) (w : World) :
    Calls Tryd.prog 11 #[.int .i64 4, .int .i64 a] w (Gives2 (bi (a == 0)) (0) w) := by
  have hmf := mkf
  have he1 := eqlFN
  have he2 := eqlNN
  go_enter Tryd.func11, Tryd.ntmps11
  go_wp2
  all_goals go_ret2
  all_goals exact gives2_of rfl (by first | rfl | simp_all [bi]) (below2 _ _ _)
end Go.Proofs.YtnlodnkdppgddaaDoor
