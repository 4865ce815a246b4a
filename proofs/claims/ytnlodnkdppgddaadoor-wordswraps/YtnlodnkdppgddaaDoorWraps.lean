/-
  DERIVED. Layer 1: the walk of the law WordsWraps: for every two numbers it is true.
-/
import Derived.Test.YtnlodnkdppgddaaDoorTruths
namespace Go.Proofs.YtnlodnkdppgddaaDoor
open Go.RowKit
set_option maxRecDepth 100000 in
set_option maxHeartbeats 2000000 in
theorem wraps_core (a b s t d p n z : Int) (w : World) (ht : Tab w)
    (hs : Hid (wrap64 (a + b) = s)) (hss : Hid (wrap64 (b + a) = t)) (hd : Hid (wrap64 (s - b) = d)) (hp : Hid (wrap64 (a * -1) = p)) (hn : Hid (wrap64 (-a) = n)) (hz : Hid (wrap64 (0 - a) = z))
    (t1 : (s == t) = true) (t2 : (d == a) = true) (t3 : (p == n) = true) (t4 : (z == n) = true) :
    Calls Tryd.prog 7 #[.int .i64 a, .int .i64 b] w (IsTrue w) := by
  go_enter Tryd.func7, Tryd.ntmps7
  go_wp2_with fail
  refine (two_add a b _).mono ?_; rw [hs.out]; rintro e w1 ⟨rfl, hb⟩
  go_wp2_with fail
  refine (two_add b a _).mono ?_; rw [hss.out]; rintro e w2 ⟨rfl, hc⟩; replace hb := below_then hb hc; clear hc w1
  go_wp2_with fail
  refine (two_sub s b _).mono ?_; rw [hd.out]; rintro e w1 ⟨rfl, hc⟩; replace hb := below_then hb hc; clear hc w2
  go_wp2_with fail
  refine (two_mul a (-1) _).mono ?_; rw [hp.out]; rintro e w2 ⟨rfl, hc⟩; replace hb := below_then hb hc; clear hc w1
  go_wp2_with fail
  refine (one_neg a _).mono ?_; rw [hn.out]; rintro e w1 ⟨rfl, hc⟩; replace hb := below_then hb hc; clear hc w2
  go_wp2_with fail
  refine (two_sub 0 a _).mono ?_; rw [hz.out]; rintro e w2 ⟨rfl, hc⟩; replace hb := below_then hb hc; clear hc w1
  go_wp2_with fail
  refine (fixed_any _ (by exact ht.on hb)).mono ?_; rintro e w3 ⟨rfl, hc⟩; replace hb := below_then hb hc; clear hc
  go_wp2
  go_ret
  exact ⟨rfl, hb⟩

theorem wraps_any (a b : Int) (w : World) (ha : -9223372036854775808 ≤ a ∧ a ≤ 9223372036854775807) (ht : Tab w) : Calls Tryd.prog 7 #[.int .i64 a, .int .i64 b] w (IsTrue w) := by
  refine wraps_core a b _ _ _ _ _ _ w ht (Lib.hid rfl) (Lib.hid rfl) (Lib.hid rfl) (Lib.hid rfl) (Lib.hid rfl) (Lib.hid rfl) ?_ ?_ ?_ ?_
  · rw [Int.add_comm]; simp
  · rw [beq_iff_eq]; unfold wrap64; omega
  · rw [Int.mul_neg_one]; simp
  · rw [Int.zero_sub]; simp
end Go.Proofs.YtnlodnkdppgddaaDoor
