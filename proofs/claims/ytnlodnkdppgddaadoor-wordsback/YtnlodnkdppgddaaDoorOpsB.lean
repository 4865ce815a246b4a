/-
  DERIVED. Layer 1: contracts of words.Two at Eq, Ne, Lt, Le, And, Or.
-/
import Derived.Test.YtnlodnkdppgddaaDoorOps
namespace Go.Proofs.YtnlodnkdppgddaaDoor
open Go.RowKit

set_option maxHeartbeats 1000000 in
theorem two_eq (a b : Int) (w : World) :
    Calls Tryd.prog 13 #[.int .i64 10, .int .i64 a, .int .i64 b] w (Gives2 (bi (a == b)) (0) w) := by
  have hmf := mkf
  have he1 := eqlFN
  have he2 := eqlNN
  go_enter Tryd.func13, Tryd.ntmps13
  go_wp2
  all_goals go_ret2
  all_goals exact gives2_of rfl (by first | rfl | simp_all [bi]) (below3 _ _ _ _)

set_option maxHeartbeats 1000000 in
theorem two_ne (a b : Int) (w : World) :
    Calls Tryd.prog 13 #[.int .i64 11, .int .i64 a, .int .i64 b] w (Gives2 (bi (a != b)) (0) w) := by
  have hmf := mkf
  have he1 := eqlFN
  have he2 := eqlNN
  go_enter Tryd.func13, Tryd.ntmps13
  go_wp2
  all_goals go_ret2
  all_goals exact gives2_of rfl (by first | rfl | simp_all [bi]) (below3 _ _ _ _)

set_option maxHeartbeats 1000000 in
theorem two_lt (a b : Int) (w : World) :
    Calls Tryd.prog 13 #[.int .i64 12, .int .i64 a, .int .i64 b] w (Gives2 (bi (decide (a < b))) (0) w) := by
  have hmf := mkf
  have he1 := eqlFN
  have he2 := eqlNN
  go_enter Tryd.func13, Tryd.ntmps13
  go_wp2
  all_goals go_ret2
  all_goals exact gives2_of rfl (by first | rfl | simp_all [bi]) (below3 _ _ _ _)

set_option maxHeartbeats 1000000 in
theorem two_le (a b : Int) (w : World) :
    Calls Tryd.prog 13 #[.int .i64 13, .int .i64 a, .int .i64 b] w (Gives2 (bi (decide (a ≤ b))) (0) w) := by
  have hmf := mkf
  have he1 := eqlFN
  have he2 := eqlNN
  go_enter Tryd.func13, Tryd.ntmps13
  go_wp2
  all_goals go_ret2
  all_goals exact gives2_of rfl (by first | rfl | simp_all [bi]) (below3 _ _ _ _)

set_option maxHeartbeats 1000000 in
theorem two_and (a b : Int) (w : World) :
    Calls Tryd.prog 13 #[.int .i64 14, .int .i64 a, .int .i64 b] w (Gives2 (bi (a != 0 && b != 0)) (0) w) := by
  have hmf := mkf
  have he1 := eqlFN
  have he2 := eqlNN
  go_enter Tryd.func13, Tryd.ntmps13
  go_wp2
  all_goals go_ret2
  all_goals exact gives2_of rfl (by first | rfl | simp_all [bi]) (below3 _ _ _ _)

set_option maxHeartbeats 1000000 in
theorem two_or (a b : Int) (w : World) :
    Calls Tryd.prog 13 #[.int .i64 15, .int .i64 a, .int .i64 b] w (Gives2 (bi (a != 0 || b != 0)) (0) w) := by
  have hmf := mkf
  have he1 := eqlFN
  have he2 := eqlNN
  go_enter Tryd.func13, Tryd.ntmps13
  go_wp2
  all_goals go_ret2
  all_goals exact gives2_of rfl (by first | rfl | simp_all [bi]) (below3 _ _ _ _)
end Go.Proofs.YtnlodnkdppgddaaDoor
