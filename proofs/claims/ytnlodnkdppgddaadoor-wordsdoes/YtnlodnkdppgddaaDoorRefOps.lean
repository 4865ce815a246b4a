/-
  DERIVED. Layer 1: contracts of the functions that the law WordsDoes holds words against.
-/
import Derived.Test.YtnlodnkdppgddaaDoorTruths
namespace Go.Proofs.YtnlodnkdppgddaaDoor
open Go.RowKit

set_option maxHeartbeats 1000000 in
theorem r2_add (a b : Int) (w : World) :
    Calls Tryd.prog 14 #[.int .i64 5, .int .i64 a, .int .i64 b] w (Gives2 (wrap64 (a + b)) (0) w) := by
  go_enter Tryd.func14, Tryd.ntmps14
  go_wp2
  all_goals go_ret2
  all_goals exact gives2_of rfl (rfl) (Below.refl _ _)

set_option maxHeartbeats 1000000 in
theorem r2_sub (a b : Int) (w : World) :
    Calls Tryd.prog 14 #[.int .i64 6, .int .i64 a, .int .i64 b] w (Gives2 (wrap64 (a - b)) (0) w) := by
  go_enter Tryd.func14, Tryd.ntmps14
  go_wp2
  all_goals go_ret2
  all_goals exact gives2_of rfl (rfl) (Below.refl _ _)

set_option maxHeartbeats 1000000 in
theorem r2_mul (a b : Int) (w : World) :
    Calls Tryd.prog 14 #[.int .i64 7, .int .i64 a, .int .i64 b] w (Gives2 (wrap64 (a * b)) (0) w) := by
  go_enter Tryd.func14, Tryd.ntmps14
  go_wp2
  all_goals go_ret2
  all_goals exact gives2_of rfl (rfl) (Below.refl _ _)

set_option maxHeartbeats 1000000 in
theorem r2_eq (a b : Int) (w : World) :
    Calls Tryd.prog 14 #[.int .i64 10, .int .i64 a, .int .i64 b] w (Gives2 (bi (a == b)) (0) w) := by
  go_enter Tryd.func14, Tryd.ntmps14
  go_wp2
  all_goals go_ret2
  all_goals exact gives2_of rfl (by first | rfl | simp_all [bi]) (Below.refl _ _)

set_option maxHeartbeats 1000000 in
theorem r2_ne (a b : Int) (w : World) :
    Calls Tryd.prog 14 #[.int .i64 11, .int .i64 a, .int .i64 b] w (Gives2 (bi (a != b)) (0) w) := by
  go_enter Tryd.func14, Tryd.ntmps14
  go_wp2
  all_goals go_ret2
  all_goals exact gives2_of rfl (by first | rfl | simp_all [bi]) (Below.refl _ _)

set_option maxHeartbeats 1000000 in
theorem r2_lt (a b : Int) (w : World) :
    Calls Tryd.prog 14 #[.int .i64 12, .int .i64 a, .int .i64 b] w (Gives2 (bi (decide (a < b))) (0) w) := by
  go_enter Tryd.func14, Tryd.ntmps14
  go_wp2
  all_goals go_ret2
  all_goals exact gives2_of rfl (by first | rfl | simp_all [bi]) (Below.refl _ _)

set_option maxHeartbeats 1000000 in
theorem r2_le (a b : Int) (w : World) :
    Calls Tryd.prog 14 #[.int .i64 13, .int .i64 a, .int .i64 b] w (Gives2 (bi (decide (a ≤ b))) (0) w) := by
  go_enter Tryd.func14, Tryd.ntmps14
  go_wp2
  all_goals go_ret2
  all_goals exact gives2_of rfl (by first | rfl | simp_all [bi]) (Below.refl _ _)

set_option maxHeartbeats 1000000 in
theorem r2_and (a b : Int) (w : World) :
    Calls Tryd.prog 14 #[.int .i64 14, .int .i64 a, .int .i64 b] w (Gives2 (bi (a != 0 && b != 0)) (0) w) := by
  go_enter Tryd.func14, Tryd.ntmps14
  go_wp2
  all_goals go_ret2
  all_goals exact gives2_of rfl (by first | rfl | simp_all [bi]) (Below.refl _ _)

set_option maxHeartbeats 1000000 in
theorem r2_or (a b : Int) (w : World) :
    Calls Tryd.prog 14 #[.int .i64 15, .int .i64 a, .int .i64 b] w (Gives2 (bi (a != 0 || b != 0)) (0) w) := by
  go_enter Tryd.func14, Tryd.ntmps14
  go_wp2
  all_goals go_ret2
  all_goals exact gives2_of rfl (by first | rfl | simp_all [bi]) (Below.refl _ _)

set_option maxHeartbeats 1000000 in
theorem quo_any (a b : Int) (w : World) (hb : b ≠ 0) : Calls Tryd.prog 37 #[.int .i64 a, .int .i64 b] w fun e w' => e = .returned (.int .i64 (wrap64 (a.tdiv b))) ∧ w = w' := by
  by_cases h : a = -9223372036854775808
  · by_cases k : b = -1
    · subst h; subst k
      rw [show wrap64 ((-9223372036854775808 : Int).tdiv (-1)) = -9223372036854775808 from by unfold wrap64; decide]
      go_enter Tryd.func37, Tryd.ntmps37
      go_wp2
      go_ret
      exact ⟨rfl, rfl⟩
    · have a1 : (a == -9223372036854775808) = true := beq_iff_eq.2 h
      have b1 : (b == -1) = false := beq_eq_false_iff_ne.2 k
      clear h k
      go_enter Tryd.func37, Tryd.ntmps37
      go_wp2
      go_ret
      exact ⟨rfl, rfl⟩
  · have a1 : (a == -9223372036854775808) = false := beq_eq_false_iff_ne.2 h
    clear h
    go_enter Tryd.func37, Tryd.ntmps37
    go_wp2
    go_ret
    exact ⟨rfl, rfl⟩

set_option maxHeartbeats 1000000 in
theorem r2_div (a b : Int) (w : World) (hb : b ≠ 0) :
    Calls Tryd.prog 14 #[.int .i64 8, .int .i64 a, .int .i64 b] w (Gives2 (wrap64 (a.tdiv b)) 0 w) := by
  have b0 : (b == 0) = false := beq_eq_false_iff_ne.2 hb
  have HB := Lib.hid hb
  clear hb
  go_enter Tryd.func14, Tryd.ntmps14
  go_wp2_with fail
  refine (quo_any a b _ HB.out).mono ?_; rintro e w' ⟨rfl, rfl⟩
  go_wp2
  go_ret2
  exact gives2_of rfl rfl (Below.refl _ _)

theorem mod_eq (a b : Int) (ha : -9223372036854775808 ≤ a ∧ a ≤ 9223372036854775807) : wrap64 (a - wrap64 (b * wrap64 (a.tdiv b))) = a.tmod b := by
  have e := Int.tmod_add_mul_tdiv a b
  have hn : (a.tmod b).natAbs ≤ a.natAbs := by rw [Int.natAbs_tmod]; exact Nat.mod_le _ _
  have h0 : 0 ≤ a → 0 ≤ a.tmod b := fun h => Int.tmod_nonneg b h
  have h1 : a < 0 → a.tmod b ≤ 0 := fun h => by
    have h2 := Int.tmod_nonneg b (show 0 ≤ -a by omega)
    rw [Int.neg_tmod] at h2; omega
  obtain ⟨k, hk⟩ : ∃ k, wrap64 (a.tdiv b) = a.tdiv b + k * 18446744073709551616 := ⟨-((a.tdiv b + 9223372036854775808) / 18446744073709551616), by unfold wrap64; omega⟩
  rw [hk, Int.mul_add, show b * (k * 18446744073709551616) = (b * k) * 18446744073709551616 from by rw [Int.mul_assoc]]
  generalize b * a.tdiv b = u at *
  generalize b * k = v
  unfold wrap64; omega

set_option maxHeartbeats 1000000 in
theorem r2_mod (a b : Int) (w : World) (hb : b ≠ 0) (ha : -9223372036854775808 ≤ a ∧ a ≤ 9223372036854775807) :
    Calls Tryd.prog 14 #[.int .i64 9, .int .i64 a, .int .i64 b] w (Gives2 (a.tmod b) 0 w) := by
  have b0 : (b == 0) = false := beq_eq_false_iff_ne.2 hb
  have HB := Lib.hid hb
  have HM := Lib.hid (mod_eq a b ha)
  clear hb ha
  go_enter Tryd.func14, Tryd.ntmps14
  go_wp2_with fail
  refine (quo_any a b _ HB.out).mono ?_; rintro e w' ⟨rfl, rfl⟩
  go_wp2
  go_ret2
  exact gives2_of rfl HM.out (Below.refl _ _)

set_option maxHeartbeats 1000000 in
theorem r2_div0 (op a : Int) (w : World) (h : op = 8 ∨ op = 9) :
    Calls Tryd.prog 14 #[.int .i64 op, .int .i64 a, .int .i64 0] w (Gives2 0 12 w) := by
  rcases h with rfl | rfl
  all_goals
    go_enter Tryd.func14, Tryd.ntmps14
    go_wp2
    go_ret2
    exact gives2_of rfl rfl (Below.refl _ _)

set_option maxHeartbeats 2000000 in
theorem r2_bad (op a b : Int) (w : World) (h : op < 5 ∨ 15 < op) :
    Calls Tryd.prog 14 #[.int .i64 op, .int .i64 a, .int .i64 b] w (Gives2 0 1 w) := by
  have h5 : (op == 5) = false := beq_eq_false_iff_ne.2 (by omega)
  have h6 : (op == 6) = false := beq_eq_false_iff_ne.2 (by omega)
  have h7 : (op == 7) = false := beq_eq_false_iff_ne.2 (by omega)
  have h8 : (op == 8) = false := beq_eq_false_iff_ne.2 (by omega)
  have h9 : (op == 9) = false := beq_eq_false_iff_ne.2 (by omega)
  have h10 : (op == 10) = false := beq_eq_false_iff_ne.2 (by omega)
  have h11 : (op == 11) = false := beq_eq_false_iff_ne.2 (by omega)
  have h12 : (op == 12) = false := beq_eq_false_iff_ne.2 (by omega)
  have h13 : (op == 13) = false := beq_eq_false_iff_ne.2 (by omega)
  have h14 : (op == 14) = false := beq_eq_false_iff_ne.2 (by omega)
  have h15 : (op == 15) = false := beq_eq_false_iff_ne.2 (by omega)
  clear h
  go_enter Tryd.func14, Tryd.ntmps14
  go_wp2
  go_ret2
  exact gives2_of rfl rfl (Below.refl _ _)

set_option maxHeartbeats 1000000 in
theorem r1_neg (a : Int) (w : World) : Calls Tryd.prog 12 #[.int .i64 3, .int .i64 a] w (Gives2 (wrap64 (-a)) 0 w) := by
  go_enter Tryd.func12, Tryd.ntmps12
  go_wp2
  go_ret2
  exact gives2_of rfl (by simp) (Below.refl _ _)
set_option maxHeartbeats 1000000 in
theorem r1_not (a : Int) (w : World) : Calls Tryd.prog 12 #[.int .i64 4, .int .i64 a] w (Gives2 (bi (a == 0)) 0 w) := by
  go_enter Tryd.func12, Tryd.ntmps12
  go_wp2
  all_goals go_ret2
  all_goals exact gives2_of rfl (by first | rfl | simp_all [bi]) (Below.refl _ _)
set_option maxHeartbeats 1000000 in
theorem r1_bad (op a : Int) (w : World) (h : op ≠ 3 ∧ op ≠ 4) : Calls Tryd.prog 12 #[.int .i64 op, .int .i64 a] w (Gives2 0 1 w) := by
  have h3 : (op == 3) = false := beq_eq_false_iff_ne.2 h.1
  have h4 : (op == 4) = false := beq_eq_false_iff_ne.2 h.2
  clear h
  go_enter Tryd.func12, Tryd.ntmps12
  go_wp2
  go_ret2
  exact gives2_of rfl rfl (Below.refl _ _)
set_option maxHeartbeats 400000 in
theorem rbool_any (p : Bool) (w : World) : Calls Tryd.prog 17 #[.bool p] w fun e w' => e = .returned (.int .i64 (bi p)) ∧ w = w' := by
  cases p
  all_goals
    go_enter Tryd.func17, Tryd.ntmps17
    go_wp2
    go_ret
    exact ⟨rfl, rfl⟩
end Go.Proofs.YtnlodnkdppgddaaDoor
