/-
  DERIVED. Layer 1: the walk of the law WordsSigns: for every two numbers it is true.
-/
import Derived.Test.YtnlodnkdppgddaaDoorTruths
namespace Go.Proofs.YtnlodnkdppgddaaDoor
open Go.RowKit
set_option maxRecDepth 100000 in
set_option maxHeartbeats 2000000 in
theorem signs_core (a b q x y r s t : Int) (w : World) (ht : Tab w) (ha : -9223372036854775807 ≤ a) (ha2 : a ≤ 9223372036854775807) (hb1 : -9223372036854775807 ≤ b) (hb2 : b ≤ 9223372036854775807)
    (b0 : (b == 0) = false) (a1 : (a == -9223372036854775808) = false) (b1 : (b == -9223372036854775808) = false)
    (hq : Hid (wrap64 (a.tdiv b) = q)) (hx : Hid (wrap64 ((-a).tdiv b) = x)) (hy : Hid (wrap64 (a.tdiv (-b)) = y)) (hr : Hid (a.tmod b = r)) (hs : Hid ((-a).tmod b = s)) (htt : Hid (a.tmod (-b) = t))
    (t1 : (x == wrap64 (-q)) = true) (t2 : (y == wrap64 (-q)) = true) (t3 : (s == wrap64 (-r)) = true) (t4 : (t == r) = true) :
    Calls Tryd.prog 9 #[.int .i64 a, .int .i64 b] w (IsTrue w) := by
  have hne : Hid (b ≠ 0) := Lib.hid (by simpa using b0)
  have hne2 : Hid (-b ≠ 0) := Lib.hid (by have := hne.out; omega)
  go_enter Tryd.func9, Tryd.ntmps9
  go_wp2_with fail
  refine (two_div a b _ hne.out).mono ?_; rw [hq.out]; rintro e w1 ⟨rfl, hb⟩
  go_wp2_with fail
  refine (two_div (-a) b _ hne.out).mono ?_; rw [hx.out]; rintro e w2 ⟨rfl, hc⟩; replace hb := below_then hb hc; clear hc w1
  go_wp2_with fail
  refine (two_div a (-b) _ hne2.out).mono ?_; rw [hy.out]; rintro e w1 ⟨rfl, hc⟩; replace hb := below_then hb hc; clear hc w2
  go_wp2_with fail
  refine (two_mod a b _ hne.out).mono ?_; rw [hr.out]; rintro e w2 ⟨rfl, hc⟩; replace hb := below_then hb hc; clear hc w1
  go_wp2_with fail
  refine (two_mod (-a) b _ hne.out).mono ?_; rw [hs.out]; rintro e w1 ⟨rfl, hc⟩; replace hb := below_then hb hc; clear hc w2
  go_wp2_with fail
  refine (two_mod a (-b) _ hne2.out).mono ?_; rw [htt.out]; rintro e w2 ⟨rfl, hc⟩; replace hb := below_then hb hc; clear hc w1
  go_wp2_with fail
  refine (fixed_any _ (by exact ht.on hb)).mono ?_; rintro e w3 ⟨rfl, hc⟩; replace hb := below_then hb hc; clear hc
  go_wp2
  go_ret
  exact ⟨rfl, hb⟩

set_option maxHeartbeats 1000000 in
theorem signs_no (a b : Int) (w : World) (ht : Tab w) (h : b = 0 ∨ a = -9223372036854775808 ∨ b = -9223372036854775808) :
    Calls Tryd.prog 9 #[.int .i64 a, .int .i64 b] w (IsTrue w) := by
  by_cases h0 : b = 0
  · have b0 : (b == 0) = true := beq_iff_eq.2 h0
    clear h h0
    go_enter Tryd.func9, Tryd.ntmps9
    go_wp2_with fail
    refine (fixed_any _ ht).mono ?_; rintro e w1 ⟨rfl, hc⟩
    go_wp2
    go_ret
    exact ⟨rfl, hc⟩
  · have b0 : (b == 0) = false := beq_eq_false_iff_ne.2 h0
    by_cases h1 : a = -9223372036854775808
    · have a0 : (a == -9223372036854775808) = true := beq_iff_eq.2 h1
      clear h h0 h1
      go_enter Tryd.func9, Tryd.ntmps9
      go_wp2_with fail
      refine (fixed_any _ ht).mono ?_; rintro e w1 ⟨rfl, hc⟩
      go_wp2
      go_ret
      exact ⟨rfl, hc⟩
    · have a0 : (a == -9223372036854775808) = false := beq_eq_false_iff_ne.2 h1
      have b1 : (b == -9223372036854775808) = true := beq_iff_eq.2 (by omega)
      clear h h0 h1
      go_enter Tryd.func9, Tryd.ntmps9
      go_wp2_with fail
      refine (fixed_any _ ht).mono ?_; rintro e w1 ⟨rfl, hc⟩
      go_wp2
      go_ret
      exact ⟨rfl, hc⟩

theorem tdiv_bd (a b : Int) (ha : -9223372036854775807 ≤ a) (ha2 : a ≤ 9223372036854775807) : -9223372036854775807 ≤ a.tdiv b ∧ a.tdiv b ≤ 9223372036854775807 := by
  have h := Int.natAbs_tdiv_le_natAbs a b
  omega
theorem tmod_bd (a b : Int) (ha : -9223372036854775807 ≤ a) (ha2 : a ≤ 9223372036854775807) : -9223372036854775807 ≤ a.tmod b ∧ a.tmod b ≤ 9223372036854775807 := by
  have h : (a.tmod b).natAbs ≤ a.natAbs := by rw [Int.natAbs_tmod]; exact Nat.mod_le _ _
  omega
theorem signs_any (a b : Int) (w : World) (ha : -9223372036854775808 ≤ a ∧ a ≤ 9223372036854775807) (hb : -9223372036854775808 ≤ b ∧ b ≤ 9223372036854775807) (ht : Tab w) : Calls Tryd.prog 9 #[.int .i64 a, .int .i64 b] w (IsTrue w) := by
  by_cases h : b = 0 ∨ a = -9223372036854775808 ∨ b = -9223372036854775808
  · exact signs_no a b w ht h
  · have h1 := tdiv_bd a b (by omega) (by omega)
    have h2 := tmod_bd a b (by omega) (by omega)
    refine signs_core a b _ _ _ _ _ _ w ht (by omega) (by omega) (by omega) (by omega) (beq_eq_false_iff_ne.2 (by omega)) (beq_eq_false_iff_ne.2 (by omega)) (beq_eq_false_iff_ne.2 (by omega)) (Lib.hid rfl) (Lib.hid rfl) (Lib.hid rfl) (Lib.hid rfl) (Lib.hid rfl) (Lib.hid rfl) ?_ ?_ ?_ ?_
    · rw [beq_iff_eq, Int.neg_tdiv, IntWalk.wrap64_in (a.tdiv b) (by omega)]
    · rw [beq_iff_eq, Int.tdiv_neg, IntWalk.wrap64_in (a.tdiv b) (by omega)]
    · rw [beq_iff_eq, Int.neg_tmod, IntWalk.wrap64_in _ (by omega)]
    · rw [beq_iff_eq, Int.tmod_neg]
end Go.Proofs.YtnlodnkdppgddaaDoor
