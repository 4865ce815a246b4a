/-
  DERIVED. Layer 1: the calls whose answers the document fixes: each of them answers so, whatever the world that holds the table of powers of ten.
-/
import Derived.Test.YtnlodnkdppgddaaDoorParse
import Derived.Test.YtnlodnkdppgddaaDoorOpsA
import Derived.Test.YtnlodnkdppgddaaDoorOpsB
import Derived.Test.YtnlodnkdppgddaaDoorOpsC
namespace Go.Proofs.YtnlodnkdppgddaaDoor
open Go.RowKit

theorem fc1 (w : World) : Calls Tryd.prog 13 #[.int .i64 8, .int .i64 (-7), .int .i64 2] w (Gives2 (-3) 0 w) := by
  have h := two_div (-7) 2 w (by decide)
  rwa [show wrap64 ((-7 : Int).tdiv 2) = -3 from by unfold wrap64; decide] at h
theorem fc2 (w : World) : Calls Tryd.prog 13 #[.int .i64 9, .int .i64 (-7), .int .i64 2] w (Gives2 (-1) 0 w) := two_mod (-7) 2 w (by decide)
theorem fc3 (w : World) : Calls Tryd.prog 13 #[.int .i64 5, .int .i64 9223372036854775807, .int .i64 1] w (Gives2 (-9223372036854775808) 0 w) := by
  have h := two_add 9223372036854775807 1 w
  rwa [show wrap64 ((9223372036854775807 : Int) + 1) = -9223372036854775808 from by unfold wrap64; decide] at h
theorem fc4 (w : World) : Calls Tryd.prog 13 #[.int .i64 8, .int .i64 1, .int .i64 0] w (Gives2 0 12 w) := two_div0 8 1 w (.inl rfl)
theorem fc5 (w : World) : Calls Tryd.prog 13 #[.int .i64 3, .int .i64 1, .int .i64 1] w (Gives2 0 1 w) := two_nil3 1 1 w
theorem fc6 (w : World) : Calls Tryd.prog 11 #[.int .i64 4, .int .i64 0] w (Gives2 1 0 w) := one_not 0 w
theorem fc7 (w : World) : Calls Tryd.prog 11 #[.int .i64 5, .int .i64 0] w (Gives2 0 1 w) := one_nil5 0 w
theorem fc8 (w : World) : Calls Tryd.prog 19 #[.string ⟨#[45, 49, 50]⟩] w (Gives2 (-12) 0 w) := by
  have h := parse_any ⟨#[45, 49, 50]⟩ w
  rwa [show parseV (ByteArray.mk #[45, 49, 50]).data.toList = (-12, 0) from by decide +kernel] at h
theorem fc9 (w : World) : Calls Tryd.prog 19 #[.string ⟨#[48, 49, 50]⟩] w (Gives2 0 8 w) := by
  have h := parse_any ⟨#[48, 49, 50]⟩ w
  rwa [show parseV (ByteArray.mk #[48, 49, 50]).data.toList = (0, 8) from by decide +kernel] at h
theorem fc10 (w : World) : Calls Tryd.prog 19 #[.string ⟨#[57, 50, 50, 51, 51, 55, 50, 48, 51, 54, 56, 53, 52, 55, 55, 53, 56, 48, 56]⟩] w (Gives2 0 4 w) := by
  have h := parse_any ⟨#[57, 50, 50, 51, 51, 55, 50, 48, 51, 54, 56, 53, 52, 55, 55, 53, 56, 48, 56]⟩ w
  rwa [show parseV (ByteArray.mk #[57, 50, 50, 51, 51, 55, 50, 48, 51, 54, 56, 53, 52, 55, 55, 53, 56, 48, 56]).data.toList = (0, 4) from by decide +kernel] at h
theorem fc11 (w : World) (ht : Tab w) : Calls Tryd.prog 21 #[.int .i64 (-9223372036854775808)] w fun e w' => e = .returned (.string ⟨#[45, 57, 50, 50, 51, 51, 55, 50, 48, 51, 54, 56, 53, 52, 55, 55, 53, 56, 48, 56]⟩) ∧ Below w.heap.size w w' := by
  have h := text_any (-9223372036854775808) (by decide) (by decide) w ht
  rwa [show Lib.itoa (-9223372036854775808) = [45, 57, 50, 50, 51, 51, 55, 50, 48, 51, 54, 56, 53, 52, 55, 55, 53, 56, 48, 56] from by decide +kernel] at h

/-- A law's end: it is true, and nothing that was there has turned. -/
def IsTrue (w : World) (e : Ending) (w' : World) : Prop := e = .returned (.bool true) ∧ Below w.heap.size w w'

set_option maxRecDepth 100000 in
set_option maxHeartbeats 2000000 in
theorem fixed_any (w : World) (ht : Tab w) : Calls Tryd.prog 18 #[] w (IsTrue w) := by
  go_enter Tryd.func18, Tryd.ntmps18
  go_wp2_with fail
  refine (fc1 _).mono ?_; rintro e w1 ⟨rfl, hb⟩
  go_wp2_with fail
  refine (fc2 _).mono ?_; rintro e w2 ⟨rfl, hc⟩; replace hb := below_then hb hc; clear hc w1
  go_wp2_with fail
  refine (fc3 _).mono ?_; rintro e w1 ⟨rfl, hc⟩; replace hb := below_then hb hc; clear hc w2
  go_wp2_with fail
  refine (fc4 _).mono ?_; rintro e w2 ⟨rfl, hc⟩; replace hb := below_then hb hc; clear hc w1
  go_wp2_with fail
  refine (fc5 _).mono ?_; rintro e w1 ⟨rfl, hc⟩; replace hb := below_then hb hc; clear hc w2
  go_wp2_with fail
  refine (fc6 _).mono ?_; rintro e w2 ⟨rfl, hc⟩; replace hb := below_then hb hc; clear hc w1
  go_wp2_with fail
  refine (fc7 _).mono ?_; rintro e w1 ⟨rfl, hc⟩; replace hb := below_then hb hc; clear hc w2
  go_wp2_with fail
  refine (fc8 _).mono ?_; rintro e w2 ⟨rfl, hc⟩; replace hb := below_then hb hc; clear hc w1
  go_wp2_with fail
  refine (fc9 _).mono ?_; rintro e w1 ⟨rfl, hc⟩; replace hb := below_then hb hc; clear hc w2
  go_wp2_with fail
  refine (fc10 _).mono ?_; rintro e w2 ⟨rfl, hc⟩; replace hb := below_then hb hc; clear hc w1
  go_wp2_with fail
  refine (fc11 _ (by exact ht.on hb)).mono ?_; rintro e w1 ⟨rfl, hc⟩; replace hb := below_then hb hc; clear hc w2
  go_wp2
  go_ret
  exact ⟨rfl, hb⟩
end Go.Proofs.YtnlodnkdppgddaaDoor
