/-
  DERIVED. Layer 3: contracts of the functions that tell what a byte is.
-/
import Derived.Test.YtcmbcbdijmknnaaDoorProg
import Derived.Test.YtcmbcbdijmknnaaDoorPlain
import Derived.WalkKit
import Derived.WalkSpells
import Derived.WalkLawsBesides
import Derived.KernelRfl
import Derived.Lib.Hide
namespace Go.Proofs.YtcmbcbdijmknnaaDoor
open Go.RowKit

theorem ret_bool {a b : Bool} (h : a = b) : Ending.returned (.bool a) = .returned (.bool b) := by rw [h]
/-- What a function of one truth comes back with; the world is as it was. -/
def Tells (b : Bool) (w : World) (e : Ending) (w' : World) : Prop := e = .returned (.bool b) ∧ w = w'

theorem letter_any (c : UInt8) (w : World) : Calls Tryd.prog 72 #[.int .u8 c.toNat] w (Tells (letB c) w) := by
  go_enter Tryd.func72, Tryd.ntmps72
  go_wp2
  all_goals
    go_ret
    refine ⟨ret_bool ?_, rfl⟩
    rw [Bool.eq_iff_iff]; simp [letB]; omega
theorem digit_any (c : UInt8) (w : World) : Calls Tryd.prog 80 #[.int .u8 c.toNat] w (Tells (digB c) w) := by
  go_enter Tryd.func80, Tryd.ntmps80
  go_wp2
  all_goals
    go_ret
    refine ⟨ret_bool ?_, rfl⟩
    rw [Bool.eq_iff_iff]; simp [digB]; omega
theorem rletter_any (c : UInt8) (w : World) : Calls Tryd.prog 47 #[.int .u8 c.toNat] w (Tells (letB c) w) := by
  go_enter Tryd.func47, Tryd.ntmps47
  go_wp2
  all_goals
    go_ret
    refine ⟨ret_bool ?_, rfl⟩
    rw [Bool.eq_iff_iff]; simp [letB]; omega
theorem rdigit_any (c : UInt8) (w : World) : Calls Tryd.prog 48 #[.int .u8 c.toNat] w (Tells (digB c) w) := by
  go_enter Tryd.func48, Tryd.ntmps48
  go_wp2
  all_goals
    go_ret
    refine ⟨ret_bool ?_, rfl⟩
    rw [Bool.eq_iff_iff]; simp [digB]; omega
theorem wrd_let {c : UInt8} (h : letB c = true) : wrdB c = true := by unfold wrdB; rw [h]; rfl
theorem wrd_not {c : UInt8} (h : letB c = false) : wrdB c = digB c := by unfold wrdB; rw [h]; rfl
theorem inWord_any (c : UInt8) (w : World) : Calls Tryd.prog 74 #[.int .u8 c.toNat] w (Tells (wrdB c) w) := by
  cases h : letB c with
  | true =>
    have HW := Lib.hid (wrd_let h)
    have H := Lib.hid h
    clear h
    go_enter Tryd.func74, Tryd.ntmps74
    go_wp2_with fail
    refine (letter_any c _).mono ?_
    rw [H.out]
    rintro e w' ⟨rfl, rfl⟩
    go_wp2_with fail
    go_ret
    exact ⟨ret_bool HW.out.symm, rfl⟩
  | false =>
    have HW := Lib.hid (wrd_not h)
    have H := Lib.hid h
    clear h
    go_enter Tryd.func74, Tryd.ntmps74
    go_wp2_with fail
    refine (letter_any c _).mono ?_
    rw [H.out]
    rintro e w' ⟨rfl, rfl⟩
    go_wp2_with fail
    refine (digit_any c _).mono ?_
    rintro e w' ⟨rfl, rfl⟩
    go_wp2_with fail
    go_ret
    exact ⟨ret_bool HW.out.symm, rfl⟩
end Go.Proofs.YtcmbcbdijmknnaaDoor
