/-
  DERIVED. Layer 1: the walk of the law WordsTruths: for every two numbers it is true.
-/
import Derived.Test.YtnlodnkdppgddaaDoorFixed
namespace Go.Proofs.YtnlodnkdppgddaaDoor
open Go.RowKit

set_option maxHeartbeats 400000 in
theorem truth_any (a : Int) (w : World) : Calls Tryd.prog 15 #[.int .i64 a] w fun e w' => e = .returned (.bool (a != 0)) ∧ w = w' := by
  go_enter Tryd.func15, Tryd.ntmps15
  go_wp2
  go_ret
  exact ⟨rfl, rfl⟩
set_option maxHeartbeats 400000 in
theorem bool_any (p : Bool) (w : World) : Calls Tryd.prog 16 #[.bool p] w fun e w' => e = .returned (.int .i64 (bi p)) ∧ w = w' := by
  cases p
  all_goals
    go_enter Tryd.func16, Tryd.ntmps16
    go_wp2
    go_ret
    exact ⟨rfl, rfl⟩

set_option maxRecDepth 100000 in
set_option maxHeartbeats 2000000 in
theorem truths_core (a b n d m an o no eq ne : Int) (w : World) (ht : Tab w)
    (hn : Hid (bi (a == 0) = n)) (hd : Hid (bi (n == 0) = d)) (hm : Hid (bi (b == 0) = m)) (han : Hid (bi (a != 0 && b != 0) = an)) (ho : Hid (bi (n != 0 || m != 0) = o))
    (hno : Hid (bi (o == 0) = no)) (heq : Hid (bi (a == b) = eq)) (hne : Hid (bi (b != a) = ne))
    (t1 : (d == bi (a != 0)) = true) (t2 : (an == no) = true) (t3 : (wrap64 (eq + ne) == 1) = true) :
    Calls Tryd.prog 10 #[.int .i64 a, .int .i64 b] w (IsTrue w) := by
  go_enter Tryd.func10, Tryd.ntmps10
  go_wp2_with fail
  refine (one_not a _).mono ?_; rw [hn.out]; rintro e w1 ⟨rfl, hb⟩
  go_wp2_with fail
  refine (one_not n _).mono ?_; rw [hd.out]; rintro e w2 ⟨rfl, hc⟩; replace hb := below_then hb hc; clear hc w1
  go_wp2_with fail
  refine (one_not b _).mono ?_; rw [hm.out]; rintro e w1 ⟨rfl, hc⟩; replace hb := below_then hb hc; clear hc w2
  go_wp2_with fail
  refine (two_and a b _).mono ?_; rw [han.out]; rintro e w2 ⟨rfl, hc⟩; replace hb := below_then hb hc; clear hc w1
  go_wp2_with fail
  refine (two_or n m _).mono ?_; rw [ho.out]; rintro e w1 ⟨rfl, hc⟩; replace hb := below_then hb hc; clear hc w2
  go_wp2_with fail
  refine (one_not o _).mono ?_; rw [hno.out]; rintro e w2 ⟨rfl, hc⟩; replace hb := below_then hb hc; clear hc w1
  go_wp2_with fail
  refine (two_eq a b _).mono ?_; rw [heq.out]; rintro e w1 ⟨rfl, hc⟩; replace hb := below_then hb hc; clear hc w2
  go_wp2_with fail
  refine (two_ne b a _).mono ?_; rw [hne.out]; rintro e w2 ⟨rfl, hc⟩; replace hb := below_then hb hc; clear hc w1
  go_wp2_with fail
  refine (truth_any a _).mono ?_; rintro e w' ⟨rfl, rfl⟩
  go_wp2_with fail
  refine (bool_any _ _).mono ?_; rintro e w' ⟨rfl, rfl⟩
  go_wp2_with fail
  refine (fixed_any _ (by exact ht.on hb)).mono ?_; rintro e w1 ⟨rfl, hc⟩; replace hb := below_then hb hc; clear hc
  go_wp2
  go_ret
  exact ⟨rfl, hb⟩

theorem truths_any (a b : Int) (w : World) (ht : Tab w) : Calls Tryd.prog 10 #[.int .i64 a, .int .i64 b] w (IsTrue w) := by
  refine truths_core a b _ _ _ _ _ _ _ _ w ht (Lib.hid rfl) (Lib.hid rfl) (Lib.hid rfl) (Lib.hid rfl) (Lib.hid rfl) (Lib.hid rfl) (Lib.hid rfl) (Lib.hid rfl) ?_ ?_ ?_
  · by_cases h : a = 0 <;> simp [h, bi]
  · by_cases h : a = 0 <;> by_cases k : b = 0 <;> simp [h, k, bi]
  · by_cases h : a = b
    · simp [h, bi]; exact IntWalk.wrap64_in _ (by decide)
    · have k : ¬ b = a := fun e => h e.symm
      simp [h, k, bi]; exact IntWalk.wrap64_in _ (by decide)
end Go.Proofs.YtnlodnkdppgddaaDoor
