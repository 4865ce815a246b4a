/-
  DERIVED. Layer 1: the walk of the law WordsOrders: for every two numbers it is true.
-/
import Derived.Test.YtnlodnkdppgddaaDoorTruths
namespace Go.Proofs.YtnlodnkdppgddaaDoor
open Go.RowKit
set_option maxRecDepth 100000 in
set_option maxHeartbeats 2000000 in
theorem orders_core (a b l g e u m an o x y z : Int) (xb yb : Bool) (w : World) (ht : Tab w)
    (hl : Hid (bi (decide (a < b)) = l)) (hg : Hid (bi (decide (b < a)) = g)) (he : Hid (bi (a == b) = e)) (hu : Hid (bi (a != b) = u)) (hm : Hid (bi (decide (a ≤ b)) = m)) (han : Hid (bi (a != 0 && b != 0) = an)) (ho : Hid (bi (a != 0 || b != 0) = o))
    (hx : Hid (bi (a == 0) = x)) (hy : Hid (bi (b == 0) = y)) (hz : Hid (bi (x != 0 && y != 0) = z))
    (t1 : (wrap64 (wrap64 (l + g) + e) == 1) = true) (t2 : (u == wrap64 (1 - e)) = true) (t3 : (m == wrap64 (1 - g)) = true) (t4 : (o == wrap64 (1 - z)) = true)
    (t5 : (an == 1) = (xb && yb)) (t6 : (x == 0) = xb) (t7 : (y == 0) = yb) :
    Calls Tryd.prog 8 #[.int .i64 a, .int .i64 b] w (IsTrue w) := by
  cases xb <;> cases yb <;> (simp only [Bool.and_self, Bool.and_false, Bool.and_true] at t5)
  all_goals
    go_enter Tryd.func8, Tryd.ntmps8
    go_wp2_with fail
    refine (two_lt a b _).mono ?_; rw [hl.out]; rintro e w1 ⟨rfl, hb⟩
    go_wp2_with fail
    refine (two_lt b a _).mono ?_; rw [hg.out]; rintro e w2 ⟨rfl, hc⟩; replace hb := below_then hb hc; clear hc w1
    go_wp2_with fail
    refine (two_eq a b _).mono ?_; rw [he.out]; rintro e w1 ⟨rfl, hc⟩; replace hb := below_then hb hc; clear hc w2
    go_wp2_with fail
    refine (two_ne a b _).mono ?_; rw [hu.out]; rintro e w2 ⟨rfl, hc⟩; replace hb := below_then hb hc; clear hc w1
    go_wp2_with fail
    refine (two_le a b _).mono ?_; rw [hm.out]; rintro e w1 ⟨rfl, hc⟩; replace hb := below_then hb hc; clear hc w2
    go_wp2_with fail
    refine (two_and a b _).mono ?_; rw [han.out]; rintro e w2 ⟨rfl, hc⟩; replace hb := below_then hb hc; clear hc w1
    go_wp2_with fail
    refine (two_or a b _).mono ?_; rw [ho.out]; rintro e w1 ⟨rfl, hc⟩; replace hb := below_then hb hc; clear hc w2
    go_wp2_with fail
    refine (one_not a _).mono ?_; rw [hx.out]; rintro e w2 ⟨rfl, hc⟩; replace hb := below_then hb hc; clear hc w1
    go_wp2_with fail
    refine (one_not b _).mono ?_; rw [hy.out]; rintro e w1 ⟨rfl, hc⟩; replace hb := below_then hb hc; clear hc w2
    go_wp2_with fail
    refine (two_and x y _).mono ?_; rw [hz.out]; rintro e w2 ⟨rfl, hc⟩; replace hb := below_then hb hc; clear hc w1
    go_wp2_with fail
    refine (fixed_any _ (by exact ht.on hb)).mono ?_; rintro e w3 ⟨rfl, hc⟩; replace hb := below_then hb hc; clear hc
    go_wp2
    go_ret
    exact ⟨rfl, hb⟩

theorem orders_any (a b : Int) (w : World) (ht : Tab w) : Calls Tryd.prog 8 #[.int .i64 a, .int .i64 b] w (IsTrue w) := by
  refine orders_core a b _ _ _ _ _ _ _ _ _ _ _ _ w ht (Lib.hid rfl) (Lib.hid rfl) (Lib.hid rfl) (Lib.hid rfl) (Lib.hid rfl) (Lib.hid rfl) (Lib.hid rfl) (Lib.hid rfl) (Lib.hid rfl) (Lib.hid rfl) ?_ ?_ ?_ ?_ ?_ rfl rfl
  · rw [beq_iff_eq]
    rcases Int.lt_trichotomy a b with h | h | h
    · have h1 : ¬ b < a := by omega
      have h2 : ¬ a = b := by omega
      simp [h, h1, h2, bi]; unfold wrap64; decide
    · subst h; simp [bi]; unfold wrap64; decide
    · have h1 : ¬ a < b := by omega
      have h2 : ¬ a = b := by omega
      simp [h, h1, h2, bi]; unfold wrap64; decide
  · rw [beq_iff_eq]
    by_cases h : a = b <;> simp [h, bi] <;> unfold wrap64 <;> decide
  · rw [beq_iff_eq]
    by_cases h : b < a
    · have h1 : ¬ a ≤ b := by omega
      simp [h, h1, bi]; unfold wrap64; decide
    · have h1 : a ≤ b := by omega
      simp [h, h1, bi]; unfold wrap64; decide
  · rw [beq_iff_eq]
    by_cases h : a = 0 <;> by_cases k : b = 0 <;> simp [h, k, bi] <;> unfold wrap64 <;> decide
  · by_cases h : a = 0 <;> by_cases k : b = 0 <;> simp [h, k, bi]
end Go.Proofs.YtnlodnkdppgddaaDoor
