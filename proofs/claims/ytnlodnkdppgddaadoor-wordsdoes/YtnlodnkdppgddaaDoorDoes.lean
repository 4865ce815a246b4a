/-
  DERIVED. Layer 1: the walk of the law WordsDoes: for every operator and every two numbers it is true.
-/
import Derived.Test.YtnlodnkdppgddaaDoorRefOps
namespace Go.Proofs.YtnlodnkdppgddaaDoor
open Go.RowKit

set_option maxRecDepth 100000 in
set_option maxHeartbeats 2000000 in
theorem does_core (op a b x e p g : Int) (w : World) (ht : Tab w)
    (c1 : Hid (∀ w, Calls Tryd.prog 11 #[.int .i64 op, .int .i64 a] w (Gives2 x e w))) (c2 : Hid (∀ w, Calls Tryd.prog 12 #[.int .i64 op, .int .i64 a] w (Gives2 x e w)))
    (c3 : Hid (∀ w, Calls Tryd.prog 13 #[.int .i64 op, .int .i64 a, .int .i64 b] w (Gives2 p g w))) (c4 : Hid (∀ w, Calls Tryd.prog 14 #[.int .i64 op, .int .i64 a, .int .i64 b] w (Gives2 p g w))) :
    Calls Tryd.prog 3 #[.int .i64 op, .int .i64 a, .int .i64 b] w (IsTrue w) := by
  go_enter Tryd.func3, Tryd.ntmps3
  go_wp2_with fail
  refine (c1.out _).mono ?_; rintro e1 w1 ⟨rfl, hb⟩
  go_wp2_with fail
  refine (c2.out _).mono ?_; rintro e1 w2 ⟨rfl, hc⟩; replace hb := below_then hb hc; clear hc w1
  go_wp2_with fail
  refine (c3.out _).mono ?_; rintro e1 w1 ⟨rfl, hc⟩; replace hb := below_then hb hc; clear hc w2
  go_wp2_with fail
  refine (c4.out _).mono ?_; rintro e1 w2 ⟨rfl, hc⟩; replace hb := below_then hb hc; clear hc w1
  go_wp2_with fail
  refine (truth_any a _).mono ?_; rintro e1 w' ⟨rfl, rfl⟩
  go_wp2_with fail
  refine (bool_any _ _).mono ?_; rintro e1 w' ⟨rfl, rfl⟩
  go_wp2_with fail
  refine (rbool_any _ _).mono ?_; rintro e1 w' ⟨rfl, rfl⟩
  go_wp2_with fail
  refine (fixed_any _ (by exact ht.on hb)).mono ?_; rintro e1 w1 ⟨rfl, hc⟩; replace hb := below_then hb hc; clear hc
  go_wp2
  go_ret
  exact ⟨rfl, hb⟩

theorem one_same (op a : Int) : ∃ x e, (∀ w, Calls Tryd.prog 11 #[.int .i64 op, .int .i64 a] w (Gives2 x e w)) ∧ ∀ w, Calls Tryd.prog 12 #[.int .i64 op, .int .i64 a] w (Gives2 x e w) := by
  by_cases h3 : op = 3
  · subst h3; exact ⟨_, _, one_neg a, r1_neg a⟩
  · by_cases h4 : op = 4
    · subst h4; exact ⟨_, _, one_not a, r1_not a⟩
    · refine ⟨0, 1, fun w => ?_, fun w => r1_bad op a w ⟨h3, h4⟩⟩
      by_cases hl : op < 0
      · exact one_low op a w hl
      · by_cases hh : 16 ≤ op
        · exact one_high op a w hh
        · have hop : op = 0 ∨ op = 1 ∨ op = 2 ∨ op = 5 ∨ op = 6 ∨ op = 7 ∨ op = 8 ∨ op = 9 ∨ op = 10 ∨ op = 11 ∨ op = 12 ∨ op = 13 ∨ op = 14 ∨ op = 15 := by omega
          rcases hop with rfl | rfl | rfl | rfl | rfl | rfl | rfl | rfl | rfl | rfl | rfl | rfl | rfl | rfl
          · exact one_nil0 a w
          · exact one_nil1 a w
          · exact one_nil2 a w
          · exact one_nil5 a w
          · exact one_nil6 a w
          · exact one_nil7 a w
          · exact one_nil8 a w
          · exact one_nil9 a w
          · exact one_nil10 a w
          · exact one_nil11 a w
          · exact one_nil12 a w
          · exact one_nil13 a w
          · exact one_nil14 a w
          · exact one_nil15 a w

theorem two_same (op a b : Int) (ha : -9223372036854775808 ≤ a ∧ a ≤ 9223372036854775807) : ∃ p g, (∀ w, Calls Tryd.prog 13 #[.int .i64 op, .int .i64 a, .int .i64 b] w (Gives2 p g w)) ∧ ∀ w, Calls Tryd.prog 14 #[.int .i64 op, .int .i64 a, .int .i64 b] w (Gives2 p g w) := by
  by_cases hx : op < 5 ∨ 15 < op
  · refine ⟨0, 1, fun w => ?_, fun w => r2_bad op a b w hx⟩
    by_cases hl : op < 0
    · exact two_low op a b w hl
    · by_cases hh : 16 ≤ op
      · exact two_high op a b w hh
      · have hop : op = 0 ∨ op = 1 ∨ op = 2 ∨ op = 3 ∨ op = 4 := by omega
        rcases hop with rfl | rfl | rfl | rfl | rfl
        · exact two_nil0 a b w
        · exact two_nil1 a b w
        · exact two_nil2 a b w
        · exact two_nil3 a b w
        · exact two_nil4 a b w
  · have hop : op = 5 ∨ op = 6 ∨ op = 7 ∨ op = 8 ∨ op = 9 ∨ op = 10 ∨ op = 11 ∨ op = 12 ∨ op = 13 ∨ op = 14 ∨ op = 15 := by omega
    rcases hop with rfl | rfl | rfl | rfl | rfl | rfl | rfl | rfl | rfl | rfl | rfl
    · exact ⟨_, _, two_add a b, r2_add a b⟩
    · exact ⟨_, _, two_sub a b, r2_sub a b⟩
    · exact ⟨_, _, two_mul a b, r2_mul a b⟩
    · by_cases h0 : b = 0
      · subst h0; exact ⟨_, _, fun w => two_div0 8 a w (.inl rfl), fun w => r2_div0 8 a w (.inl rfl)⟩
      · exact ⟨_, _, fun w => two_div a b w h0, fun w => r2_div a b w h0⟩
    · by_cases h0 : b = 0
      · subst h0; exact ⟨_, _, fun w => two_div0 9 a w (.inr rfl), fun w => r2_div0 9 a w (.inr rfl)⟩
      · exact ⟨_, _, fun w => two_mod a b w h0, fun w => r2_mod a b w h0 ha⟩
    · exact ⟨_, _, two_eq a b, r2_eq a b⟩
    · exact ⟨_, _, two_ne a b, r2_ne a b⟩
    · exact ⟨_, _, two_lt a b, r2_lt a b⟩
    · exact ⟨_, _, two_le a b, r2_le a b⟩
    · exact ⟨_, _, two_and a b, r2_and a b⟩
    · exact ⟨_, _, two_or a b, r2_or a b⟩

theorem does_any (op a b : Int) (w : World) (ha : -9223372036854775808 ≤ a ∧ a ≤ 9223372036854775807) (ht : Tab w) :
    Calls Tryd.prog 3 #[.int .i64 op, .int .i64 a, .int .i64 b] w (IsTrue w) := by
  obtain ⟨x, e, c1, c2⟩ := one_same op a
  obtain ⟨p, g, c3, c4⟩ := two_same op a b ha
  exact does_core op a b x e p g w ht (Lib.hid c1) (Lib.hid c2) (Lib.hid c3) (Lib.hid c4)
end Go.Proofs.YtnlodnkdppgddaaDoor
