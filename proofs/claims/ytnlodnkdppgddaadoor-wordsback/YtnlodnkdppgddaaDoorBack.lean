/-
  DERIVED. Layer 1: the walk of the law WordsBack: for every number and every text it is true.
-/
import Derived.Test.YtnlodnkdppgddaaDoorTruths
import Derived.Test.YtnlodnkdppgddaaDoorNumBack
namespace Go.Proofs.YtnlodnkdppgddaaDoor
open Go.RowKit

theorem parse_text (n : Int) (w : World) (h1 : -9223372036854775808 ≤ n) (h2 : n ≤ 9223372036854775807) :
    Calls Tryd.prog 19 #[.string ⟨(Lib.itoa n).toArray⟩] w (Gives2 n 0 w) := by
  have h := parse_any ⟨(Lib.itoa n).toArray⟩ w
  rw [show (ByteArray.mk (Lib.itoa n).toArray).data.toList = Lib.itoa n from by simp, parse_itoa n h1 h2] at h
  exact h
theorem text_of (k : Int) (u : ByteArray) (w : World) (h1 : -9223372036854775808 ≤ k) (h2 : k ≤ 9223372036854775807) (hi : Lib.itoa k = u.data.toList) (ht : Tab w) :
    Calls Tryd.prog 21 #[.int .i64 k] w fun e w' => e = .returned (.string u) ∧ Below w.heap.size w w' := by
  have h := text_any k h1 h2 w ht
  rw [hi, show (ByteArray.mk u.data.toList.toArray) = u from by cases u; simp] at h
  exact h
/-- What words.Parse says of a text, in two ways. -/
theorem parse_two (u : ByteArray) : (∃ k, (∀ w, Calls Tryd.prog 19 #[.string u] w (Gives2 k 0 w)) ∧ (∀ w, Tab w → Calls Tryd.prog 21 #[.int .i64 k] w fun e w' => e = .returned (.string u) ∧ Below w.heap.size w w')) ∨
    (∃ f, (∀ w, Calls Tryd.prog 19 #[.string u] w (Gives2 0 f w)) ∧ f ≠ 0) := by
  rcases parse_back u.data.toList with ⟨f0, hi, k1, k2⟩ | ⟨f1, k0⟩
  · left
    refine ⟨(parseV u.data.toList).1, fun w => ?_, fun w ht => text_of _ u w k1 k2 hi ht⟩
    have h := parse_any u w
    rw [f0] at h
    exact h
  · right
    refine ⟨(parseV u.data.toList).2, fun w => ?_, f1⟩
    have h := parse_any u w
    rw [k0] at h
    exact h

set_option maxRecDepth 100000 in
set_option maxHeartbeats 2000000 in
theorem back_any (n : Int) (s : ByteArray) (w : World) (hn : -9223372036854775808 ≤ n ∧ n ≤ 9223372036854775807) (ht : Tab w) :
    Calls Tryd.prog 5 #[.int .i64 n, .string s] w (IsTrue w) := by
  obtain ⟨h1, h2⟩ := hn
  go_enter Tryd.func5, Tryd.ntmps5
  go_wp2_with fail
  generalize s.extract 0 (min (s.size : Int) 100).toNat = u
  generalize min (s.size : Int) 100 = mm
  refine (text_any n h1 h2 _ ht).mono ?_; rintro e w1 ⟨rfl, hb⟩
  go_wp2_with fail
  refine (parse_text n _ h1 h2).mono ?_; rintro e w2 ⟨rfl, hc⟩; replace hb := below_then hb hc; clear hc w1
  rcases parse_two u with ⟨k, c1, c2⟩ | ⟨f, c1, hf⟩
  · have C1 := Lib.hid c1
    have C2 := Lib.hid c2
    clear c1 c2
    go_wp2_with fail
    refine (C1.out _).mono ?_; rintro e w1 ⟨rfl, hc⟩; replace hb := below_then hb hc; clear hc w2
    go_wp2_with fail
    refine (C2.out _ (by exact ht.on hb)).mono ?_; rintro e w2 ⟨rfl, hc⟩; replace hb := below_then hb hc; clear hc w1
    go_wp2_with fail
    refine (fixed_any _ (by exact ht.on hb)).mono ?_; rintro e w3 ⟨rfl, hc⟩; replace hb := below_then hb hc; clear hc
    go_wp2
    go_ret
    exact ⟨rfl, hb⟩
  · have C1 := Lib.hid c1
    have f0 : (f == 0) = false := beq_eq_false_iff_ne.2 hf
    have f1 : (f != 0) = true := by simp [hf]
    clear c1 hf
    go_wp2_with fail
    refine (C1.out _).mono ?_; rintro e w1 ⟨rfl, hc⟩; replace hb := below_then hb hc; clear hc w2
    go_wp2_with fail
    refine (fixed_any _ (by exact ht.on hb)).mono ?_; rintro e w3 ⟨rfl, hc⟩; replace hb := below_then hb hc; clear hc
    go_wp2
    go_ret
    exact ⟨rfl, hb⟩
end Go.Proofs.YtnlodnkdppgddaaDoor
