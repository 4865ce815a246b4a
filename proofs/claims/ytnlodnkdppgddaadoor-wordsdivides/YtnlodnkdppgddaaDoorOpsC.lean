/-
  DERIVED. Layer 1: contracts of words.One and words.Two at operators that are none of theirs.
-/
import Derived.Test.YtnlodnkdppgddaaDoorOps
namespace Go.Proofs.YtnlodnkdppgddaaDoor
open Go.RowKit

set_option maxHeartbeats 2000000 in
theorem two_low (op a b : Int) (w : World) (h : op < 0) :
    Calls Tryd.prog 13 #[.int .i64 op, .int .i64 a, .int .i64 b] w (Gives2 0 1 w) := by
  have hmf := mkf
  have he1 := eqlFN
  have he2 := eqlNN
  have h8 : (op == 8) = false := beq_eq_false_iff_ne.2 (by omega)
  have h9 : (op == 9) = false := beq_eq_false_iff_ne.2 (by omega)
  go_enter Tryd.func13, Tryd.ntmps13
  go_wp2
  all_goals go_ret2
  all_goals exact gives2_of rfl rfl (below3 _ _ _ _)

set_option maxHeartbeats 2000000 in
theorem two_high (op a b : Int) (w : World) (h : 16 ≤ op) :
    Calls Tryd.prog 13 #[.int .i64 op, .int .i64 a, .int .i64 b] w (Gives2 0 1 w) := by
  have hmf := mkf
  have he1 := eqlFN
  have he2 := eqlNN
  have h8 : (op == 8) = false := beq_eq_false_iff_ne.2 (by omega)
  have h9 : (op == 9) = false := beq_eq_false_iff_ne.2 (by omega)
  have hn : ¬ op < 0 := by omega
  go_enter Tryd.func13, Tryd.ntmps13
  go_wp2
  all_goals go_ret2
  all_goals exact gives2_of rfl rfl (below3 _ _ _ _)

set_option maxHeartbeats 2000000 in
theorem one_low (op a : Int) (w : World) (h : op < 0) :
    Calls Tryd.prog 11 #[.int .i64 op, .int .i64 a] w (Gives2 0 1 w) := by
  have hmf := mkf
  have he1 := eqlFN
  have he2 := eqlNN
  go_enter Tryd.func11, Tryd.ntmps11
  go_wp2
  all_goals go_ret2
  all_goals exact gives2_of rfl rfl (below2 _ _ _)

set_option maxHeartbeats 2000000 in
theorem one_high (op a : Int) (w : World) (h : 16 ≤ op) :
    Calls Tryd.prog 11 #[.int .i64 op, .int .i64 a] w (Gives2 0 1 w) := by
  have hmf := mkf
  have he1 := eqlFN
  have he2 := eqlNN
  have hn : ¬ op < 0 := by omega
  go_enter Tryd.func11, Tryd.ntmps11
  go_wp2
  all_goals go_ret2
  all_goals exact gives2_of rfl rfl (below2 _ _ _)

set_option maxHeartbeats 1000000 in
theorem two_nil0 (a b : Int) (w : World) :
    Calls Tryd.prog 13 #[.int .i64 0, .int .i64 a, .int .i64 b] w (Gives2 (0) (1) w) := by
  have hmf := mkf
  have he1 := eqlFN
  have he2 := eqlNN
  go_enter Tryd.func13, Tryd.ntmps13
  go_wp2
  all_goals go_ret2
  all_goals exact gives2_of rfl (rfl) (below3 _ _ _ _)

set_option maxHeartbeats 1000000 in
theorem two_nil1 (a b : Int) (w : World) :
    Calls Tryd.prog 13 #[.int .i64 1, .int .i64 a, .int .i64 b] w (Gives2 (0) (1) w) := by
  have hmf := mkf
  have he1 := eqlFN
  have he2 := eqlNN
  go_enter Tryd.func13, Tryd.ntmps13
  go_wp2
  all_goals go_ret2
  all_goals exact gives2_of rfl (rfl) (below3 _ _ _ _)

set_option maxHeartbeats 1000000 in
theorem two_nil2 (a b : Int) (w : World) :
    Calls Tryd.prog 13 #[.int .i64 2, .int .i64 a, .int .i64 b] w (Gives2 (0) (1) w) := by
  have hmf := mkf
  have he1 := eqlFN
  have he2 := eqlNN
  go_enter Tryd.func13, Tryd.ntmps13
  go_wp2
  all_goals go_ret2
  all_goals exact gives2_of rfl (rfl) (below3 _ _ _ _)

set_option maxHeartbeats 1000000 in
theorem two_nil3 (a b : Int) (w : World) :
    Calls Tryd.prog 13 #[.int .i64 3, .int .i64 a, .int .i64 b] w (Gives2 (0) (1) w) := by
  have hmf := mkf
  have he1 := eqlFN
  have he2 := eqlNN
  go_enter Tryd.func13, Tryd.ntmps13
  go_wp2
  all_goals go_ret2
  all_goals exact gives2_of rfl (rfl) (below3 _ _ _ _)

set_option maxHeartbeats 1000000 in
theorem two_nil4 (a b : Int) (w : World) :
    Calls Tryd.prog 13 #[.int .i64 4, .int .i64 a, .int .i64 b] w (Gives2 (0) (1) w) := by
  have hmf := mkf
  have he1 := eqlFN
  have he2 := eqlNN
  go_enter Tryd.func13, Tryd.ntmps13
  go_wp2
  all_goals go_ret2
  all_goals exact gives2_of rfl (rfl) (below3 _ _ _ _)

set_option maxHeartbeats 1000000 in
theorem one_nil0 (a : Int) (w : World) :
    Calls Tryd.prog 11 #[.int .i64 0, .int .i64 a] w (Gives2 (0) (1) w) := by
  have hmf := mkf
  have he1 := eqlFN
  have he2 := eqlNN
  go_enter Tryd.func11, Tryd.ntmps11
  go_wp2
  all_goals go_ret2
  all_goals exact gives2_of rfl (rfl) (below2 _ _ _)

set_option maxHeartbeats 1000000 in
theorem one_nil1 (a : Int) (w : World) :
    Calls Tryd.prog 11 #[.int .i64 1, .int .i64 a] w (Gives2 (0) (1) w) := by
  have hmf := mkf
  have he1 := eqlFN
  have he2 := eqlNN
  go_enter Tryd.func11, Tryd.ntmps11
  go_wp2
  all_goals go_ret2
  all_goals exact gives2_of rfl (rfl) (below2 _ _ _)

set_option maxHeartbeats 1000000 in
theorem one_nil2 (a : Int) (w : World) :
    Calls Tryd.prog 11 #[.int .i64 2, .int .i64 a] w (Gives2 (0) (1) w) := by
  have hmf := mkf
  have he1 := eqlFN
  have he2 := eqlNN
  go_enter Tryd.func11, Tryd.ntmps11
  go_wp2
  all_goals go_ret2
  all_goals exact gives2_of rfl (rfl) (below2 _ _ _)

set_option maxHeartbeats 1000000 in
theorem one_nil5 (a : Int) (w : World) :
    Calls Tryd.prog 11 #[.int .i64 5, .int .i64 a] w (Gives2 (0) (1) w) := by
  have hmf := mkf
  have he1 := eqlFN
  have he2 := eqlNN
  go_enter Tryd.func11, Tryd.ntmps11
  go_wp2
  all_goals go_ret2
  all_goals exact gives2_of rfl (rfl) (below2 _ _ _)

set_option maxHeartbeats 1000000 in
theorem one_nil6 (a : Int) (w : World) :
    Calls Tryd.prog 11 #[.int .i64 6, .int .i64 a] w (Gives2 (0) (1) w) := by
  have hmf := mkf
  have he1 := eqlFN
  have he2 := eqlNN
  go_enter Tryd.func11, Tryd.ntmps11
  go_wp2
  all_goals go_ret2
  all_goals exact gives2_of rfl (rfl) (below2 _ _ _)

set_option maxHeartbeats 1000000 in
theorem one_nil7 (a : Int) (w : World) :
    Calls Tryd.prog 11 #[.int .i64 7, .int .i64 a] w (Gives2 (0) (1) w) := by
  have hmf := mkf
  have he1 := eqlFN
  have he2 := eqlNN
  go_enter Tryd.func11, Tryd.ntmps11
  go_wp2
  all_goals go_ret2
  all_goals exact gives2_of rfl (rfl) (below2 _ _ _)

set_option maxHeartbeats 1000000 in
theorem one_nil8 (a : Int) (w : World) :
    Calls Tryd.prog 11 #[.int .i64 8, .int .i64 a] w (Gives2 (0) (1) w) := by
  have hmf := mkf
  have he1 := eqlFN
  have he2 := eqlNN
  go_enter Tryd.func11, Tryd.ntmps11
  go_wp2
  all_goals go_ret2
  all_goals exact gives2_of rfl (rfl) (below2 _ _ _)

set_option maxHeartbeats 1000000 in
theorem one_nil9 (a : Int) (w : World) :
    Calls Tryd.prog 11 #[.int .i64 9, .int .i64 a] w (Gives2 (0) (1) w) := by
  have hmf := mkf
  have he1 := eqlFN
  have he2 := eqlNN
  go_enter Tryd.func11, Tryd.ntmps11
  go_wp2
  all_goals go_ret2
  all_goals exact gives2_of rfl (rfl) (below2 _ _ _)

set_option maxHeartbeats 1000000 in
theorem one_nil10 (a : Int) (w : World) :
    Calls Tryd.prog 11 #[.int .i64 10, .int .i64 a] w (Gives2 (0) (1) w) := by
  have hmf := mkf
  have he1 := eqlFN
  have he2 := eqlNN
  go_enter Tryd.func11, Tryd.ntmps11
  go_wp2
  all_goals go_ret2
  all_goals exact gives2_of rfl (rfl) (below2 _ _ _)

set_option maxHeartbeats 1000000 in
theorem one_nil11 (a : Int) (w : World) :
    Calls Tryd.prog 11 #[.int .i64 11, .int .i64 a] w (Gives2 (0) (1) w) := by
  have hmf := mkf
  have he1 := eqlFN
  have he2 := eqlNN
  go_enter Tryd.func11, Tryd.ntmps11
  go_wp2
  all_goals go_ret2
  all_goals exact gives2_of rfl (rfl) (below2 _ _ _)

set_option maxHeartbeats 1000000 in
theorem one_nil12 (a : Int) (w : World) :
    Calls Tryd.prog 11 #[.int .i64 12, .int .i64 a] w (Gives2 (0) (1) w) := by
  have hmf := mkf
  have he1 := eqlFN
  have he2 := eqlNN
  go_enter Tryd.func11, Tryd.ntmps11
  go_wp2
  all_goals go_ret2
  all_goals exact gives2_of rfl (rfl) (below2 _ _ _)

set_option maxHeartbeats 1000000 in
theorem one_nil13 (a : Int) (w : World) :
    Calls Tryd.prog 11 #[.int .i64 13, .int .i64 a] w (Gives2 (0) (1) w) := by
  have hmf := mkf
  have he1 := eqlFN
  have he2 := eqlNN
  go_enter Tryd.func11, Tryd.ntmps11
  go_wp2
  all_goals go_ret2
  all_goals exact gives2_of rfl (rfl) (below2 _ _ _)

set_option maxHeartbeats 1000000 in
theorem one_nil14 (a : Int) (w : World) :
    Calls Tryd.prog 11 #[.int .i64 14, .int .i64 a] w (Gives2 (0) (1) w) := by
  have hmf := mkf
  have he1 := eqlFN
  have he2 := eqlNN
  go_enter Tryd.func11, Tryd.ntmps11
  go_wp2
  all_goals go_ret2
  all_goals exact gives2_of rfl (rfl) (below2 _ _ _)

set_option maxHeartbeats 1000000 in
theorem one_nil15 (a : Int) (w : World) :
    Calls Tryd.prog 11 #[.int .i64 15, .int .i64 a] w (Gives2 (0) (1) w) := by
  have hmf := mkf
  have he1 := eqlFN
  have he2 := eqlNN
  go_enter Tryd.func11, Tryd.ntmps11
  go_wp2
  all_goals go_ret2
  all_goals exact gives2_of rfl (rfl) (below2 _ _ _)
end Go.Proofs.YtnlodnkdppgddaaDoor
