/-
  DERIVED. Layer 1: the walk of the law WordsDivides: for every two numbers it is true.
-/
import Derived.Test.YtnlodnkdppgddaaDoorTruths
namespace Go.Proofs.YtnlodnkdppgddaaDoor
open Go.RowKit
set_option maxRecDepth 100000 in
set_option maxHeartbeats 2000000 in
theorem divides_zero (a : Int) (w : World) (ht : Tab w) : Calls Tryd.prog 6 #[.int .i64 a, .int .i64 0] w (IsTrue w) := by
  go_enter Tryd.func6, Tryd.ntmps6
  go_wp2_with fail
  refine (two_div0 8 a _ (.inl rfl)).mono ?_; rintro e w1 ⟨rfl, hb⟩
  go_wp2_with fail
  refine (two_div0 9 a _ (.inr rfl)).mono ?_; rintro e w2 ⟨rfl, hc⟩; replace hb := below_then hb hc; clear hc w1
  go_wp2_with fail
  refine (fixed_any _ (by exact ht.on hb)).mono ?_; rintro e w3 ⟨rfl, hc⟩; replace hb := below_then hb hc; clear hc
  go_wp2
  go_ret
  exact ⟨rfl, hb⟩

set_option maxRecDepth 100000 in
set_option maxHeartbeats 2000000 in
theorem divides_r0 (a b q r : Int) (w : World) (ht : Tab w) (hq : Hid (wrap64 (a.tdiv b) = q)) (hr : Hid (a.tmod b = r)) (hne : Hid (b ≠ 0)) (b0 : (b == 0) = false) (_rl : -9223372036854775807 ≤ r) (_rh : r ≤ 9223372036854775807)
    (r0 : (r == 0) = true) (tt : (wrap64 (wrap64 (b * q) + r) == a) = true) :
    Calls Tryd.prog 6 #[.int .i64 a, .int .i64 b] w (IsTrue w) := by
  go_enter Tryd.func6, Tryd.ntmps6
  go_wp2_with fail
  refine (two_div a b _ hne.out).mono ?_; rw [hq.out]; rintro e w1 ⟨rfl, hb⟩
  go_wp2_with fail
  refine (two_mod a b _ hne.out).mono ?_; rw [hr.out]; rintro e w2 ⟨rfl, hc⟩; replace hb := below_then hb hc; clear hc w1
  go_wp2_with fail
  refine (fixed_any _ (by exact ht.on hb)).mono ?_; rintro e w3 ⟨rfl, hc⟩; replace hb := below_then hb hc; clear hc
  go_wp2
  go_ret
  exact ⟨rfl, hb⟩

set_option maxRecDepth 100000 in
set_option maxHeartbeats 2000000 in
theorem divides_pa (a b q r : Int) (w : World) (ht : Tab w) (hq : Hid (wrap64 (a.tdiv b) = q)) (hr : Hid (a.tmod b = r)) (hne : Hid (b ≠ 0)) (b0 : (b == 0) = false) (_rl : -9223372036854775807 ≤ r) (_rh : r ≤ 9223372036854775807)
    (r0 : (r == 0) = false) (_r1 : 0 < r) (_r2 : ¬ r < 0) (a2 : ¬ a < 0) (b1 : r < b) (tt : (wrap64 (wrap64 (b * q) + r) == a) = true) :
    Calls Tryd.prog 6 #[.int .i64 a, .int .i64 b] w (IsTrue w) := by
  go_enter Tryd.func6, Tryd.ntmps6
  go_wp2_with fail
  refine (two_div a b _ hne.out).mono ?_; rw [hq.out]; rintro e w1 ⟨rfl, hb⟩
  go_wp2_with fail
  refine (two_mod a b _ hne.out).mono ?_; rw [hr.out]; rintro e w2 ⟨rfl, hc⟩; replace hb := below_then hb hc; clear hc w1
  go_wp2_with fail
  refine (fixed_any _ (by exact ht.on hb)).mono ?_; rintro e w3 ⟨rfl, hc⟩; replace hb := below_then hb hc; clear hc
  go_wp2
  go_ret
  exact ⟨rfl, hb⟩

set_option maxRecDepth 100000 in
set_option maxHeartbeats 2000000 in
theorem divides_pb (a b q r : Int) (w : World) (ht : Tab w) (hq : Hid (wrap64 (a.tdiv b) = q)) (hr : Hid (a.tmod b = r)) (hne : Hid (b ≠ 0)) (b0 : (b == 0) = false) (_rl : -9223372036854775807 ≤ r) (_rh : r ≤ 9223372036854775807)
    (r0 : (r == 0) = false) (_r1 : 0 < r) (_r2 : ¬ r < 0) (a2 : ¬ a < 0) (b1 : ¬ r < b) (b2 : b < -r) (tt : (wrap64 (wrap64 (b * q) + r) == a) = true) :
    Calls Tryd.prog 6 #[.int .i64 a, .int .i64 b] w (IsTrue w) := by
  go_enter Tryd.func6, Tryd.ntmps6
  go_wp2_with fail
  refine (two_div a b _ hne.out).mono ?_; rw [hq.out]; rintro e w1 ⟨rfl, hb⟩
  go_wp2_with fail
  refine (two_mod a b _ hne.out).mono ?_; rw [hr.out]; rintro e w2 ⟨rfl, hc⟩; replace hb := below_then hb hc; clear hc w1
  go_wp2_with fail
  refine (fixed_any _ (by exact ht.on hb)).mono ?_; rintro e w3 ⟨rfl, hc⟩; replace hb := below_then hb hc; clear hc
  go_wp2
  go_ret
  exact ⟨rfl, hb⟩

set_option maxRecDepth 100000 in
set_option maxHeartbeats 2000000 in
theorem divides_na (a b q r : Int) (w : World) (ht : Tab w) (hq : Hid (wrap64 (a.tdiv b) = q)) (hr : Hid (a.tmod b = r)) (hne : Hid (b ≠ 0)) (b0 : (b == 0) = false) (_rl : -9223372036854775807 ≤ r) (_rh : r ≤ 9223372036854775807)
    (r0 : (r == 0) = false) (_r1 : ¬ 0 < r) (_r2 : r < 0) (a2 : a < 0) (b1 : b < r) (tt : (wrap64 (wrap64 (b * q) + r) == a) = true) :
    Calls Tryd.prog 6 #[.int .i64 a, .int .i64 b] w (IsTrue w) := by
  go_enter Tryd.func6, Tryd.ntmps6
  go_wp2_with fail
  refine (two_div a b _ hne.out).mono ?_; rw [hq.out]; rintro e w1 ⟨rfl, hb⟩
  go_wp2_with fail
  refine (two_mod a b _ hne.out).mono ?_; rw [hr.out]; rintro e w2 ⟨rfl, hc⟩; replace hb := below_then hb hc; clear hc w1
  go_wp2_with fail
  refine (fixed_any _ (by exact ht.on hb)).mono ?_; rintro e w3 ⟨rfl, hc⟩; replace hb := below_then hb hc; clear hc
  go_wp2
  go_ret
  exact ⟨rfl, hb⟩

set_option maxRecDepth 100000 in
set_option maxHeartbeats 2000000 in
theorem divides_nb (a b q r : Int) (w : World) (ht : Tab w) (hq : Hid (wrap64 (a.tdiv b) = q)) (hr : Hid (a.tmod b = r)) (hne : Hid (b ≠ 0)) (b0 : (b == 0) = false) (_rl : -9223372036854775807 ≤ r) (_rh : r ≤ 9223372036854775807)
    (r0 : (r == 0) = false) (_r1 : ¬ 0 < r) (_r2 : r < 0) (a2 : a < 0) (b1 : ¬ b < r) (b2 : -r < b) (tt : (wrap64 (wrap64 (b * q) + r) == a) = true) :
    Calls Tryd.prog 6 #[.int .i64 a, .int .i64 b] w (IsTrue w) := by
  go_enter Tryd.func6, Tryd.ntmps6
  go_wp2_with fail
  refine (two_div a b _ hne.out).mono ?_; rw [hq.out]; rintro e w1 ⟨rfl, hb⟩
  go_wp2_with fail
  refine (two_mod a b _ hne.out).mono ?_; rw [hr.out]; rintro e w2 ⟨rfl, hc⟩; replace hb := below_then hb hc; clear hc w1
  go_wp2_with fail
  refine (fixed_any _ (by exact ht.on hb)).mono ?_; rintro e w3 ⟨rfl, hc⟩; replace hb := below_then hb hc; clear hc
  go_wp2
  go_ret
  exact ⟨rfl, hb⟩

theorem divides_any (a b : Int) (w : World) (ha : -9223372036854775808 ≤ a ∧ a ≤ 9223372036854775807) (hb : -9223372036854775808 ≤ b ∧ b ≤ 9223372036854775807) (ht : Tab w) : Calls Tryd.prog 6 #[.int .i64 a, .int .i64 b] w (IsTrue w) := by
  by_cases h0 : b = 0
  · subst h0; exact divides_zero a w ht
  · have hn : (a.tmod b).natAbs < b.natAbs := by rw [Int.natAbs_tmod]; exact Nat.mod_lt _ (by omega)
    have tt : (wrap64 (wrap64 (b * wrap64 (a.tdiv b)) + a.tmod b) == a) = true := by
      rw [beq_iff_eq]
      have e := Int.tmod_add_mul_tdiv a b
      have c : ∀ x y : Int, wrap64 (wrap64 x + y) = wrap64 (x + y) := fun x y => by unfold wrap64; omega
      have d : wrap64 (b * wrap64 (a.tdiv b) + a.tmod b) = wrap64 (b * (a.tdiv b) + a.tmod b) := by
        obtain ⟨k, hk⟩ : ∃ k, wrap64 (a.tdiv b) = a.tdiv b + k * 18446744073709551616 := ⟨-((a.tdiv b + 9223372036854775808) / 18446744073709551616), by unfold wrap64; omega⟩
        rw [hk, Int.mul_add]
        generalize b * a.tdiv b = u
        rw [show b * (k * 18446744073709551616) = (b * k) * 18446744073709551616 from by rw [Int.mul_assoc]]
        generalize b * k = v
        unfold wrap64; omega
      rw [c, d, show b * a.tdiv b + a.tmod b = a from by omega]
      exact IntWalk.wrap64_in a ha
    have b0 : (b == 0) = false := beq_eq_false_iff_ne.2 h0
    by_cases r0 : a.tmod b = 0
    · exact divides_r0 a b _ _ w ht (Lib.hid rfl) (Lib.hid rfl) (Lib.hid h0) b0 (by omega) (by omega) (beq_iff_eq.2 r0) tt
    · have r0' : (a.tmod b == 0) = false := beq_eq_false_iff_ne.2 r0
      by_cases hs : 0 ≤ a
      · have h1 := Int.tmod_nonneg b hs
        by_cases hb1 : a.tmod b < b
        · exact divides_pa a b _ _ w ht (Lib.hid rfl) (Lib.hid rfl) (Lib.hid h0) b0 (by omega) (by omega) r0' (by omega) (by omega) (by omega) hb1 tt
        · exact divides_pb a b _ _ w ht (Lib.hid rfl) (Lib.hid rfl) (Lib.hid h0) b0 (by omega) (by omega) r0' (by omega) (by omega) (by omega) hb1 (by omega) tt
      · have h1 : a.tmod b ≤ 0 := by
          have h2 := Int.tmod_nonneg b (show 0 ≤ -a by omega)
          rw [Int.neg_tmod] at h2; omega
        by_cases hb1 : b < a.tmod b
        · exact divides_na a b _ _ w ht (Lib.hid rfl) (Lib.hid rfl) (Lib.hid h0) b0 (by omega) (by omega) r0' (by omega) (by omega) (by omega) hb1 tt
        · exact divides_nb a b _ _ w ht (Lib.hid rfl) (Lib.hid rfl) (Lib.hid h0) b0 (by omega) (by omega) r0' (by omega) (by omega) (by omega) hb1 (by omega) tt
end Go.Proofs.YtnlodnkdppgddaaDoor
