/-
  DERIVED. Layer 2: contracts of the functions that tell what a byte is.
-/
import Derived.Test.YtgecocpcbfccgaaDoorProg
import Derived.Test.YtgecocpcbfccgaaDoorTok
import Derived.WalkKit
import Derived.WalkSpells
import Derived.WalkLawsBesides
import Derived.KernelRfl
import Derived.Lib.Hide
namespace Go.Proofs.YtgecocpcbfccgaaDoor
open Go.RowKit

theorem ret_bool {a b : Bool} (h : a = b) : Ending.returned (.bool a) = .returned (.bool b) := by rw [h]
/-- What a function of one truth comes back with; the world is as it was. -/
def Tells (b : Bool) (w : World) (e : Ending) (w' : World) : Prop := e = .returned (.bool b) ∧ w = w'

theorem letter_any (c : UInt8) (w : World) : Calls Tryd.prog 33 #[.int .u8 c.toNat] w (Tells (letB c) w) := by
  go_enter Tryd.func33, Tryd.ntmps33
  go_wp2
  all_goals
    go_ret
    refine ⟨ret_bool ?_, rfl⟩
    rw [Bool.eq_iff_iff]; simp [letB]; omega
theorem digit_any (c : UInt8) (w : World) : Calls Tryd.prog 40 #[.int .u8 c.toNat] w (Tells (digB c) w) := by
  go_enter Tryd.func40, Tryd.ntmps40
  go_wp2
  all_goals
    go_ret
    refine ⟨ret_bool ?_, rfl⟩
    rw [Bool.eq_iff_iff]; simp [digB]; omega
theorem inLine_any (c : UInt8) (w : World) : Calls Tryd.prog 27 #[.int .u8 c.toNat] w (Tells (linB c) w) := by
  go_enter Tryd.func27, Tryd.ntmps27
  go_wp2
  all_goals
    go_ret
    refine ⟨ret_bool ?_, rfl⟩
    rw [Bool.eq_iff_iff]; simp [linB]; omega
theorem blank_any (c : UInt8) (w : World) : Calls Tryd.prog 24 #[.int .u8 c.toNat] w (Tells (blkB c) w) := by
  go_enter Tryd.func24, Tryd.ntmps24
  go_wp2
  all_goals
    go_ret
    refine ⟨ret_bool ?_, rfl⟩
    rw [Bool.eq_iff_iff]; simp [blkB]; omega
theorem rletter_any (c : UInt8) (w : World) : Calls Tryd.prog 30 #[.int .u8 c.toNat] w (Tells (letB c) w) := by
  go_enter Tryd.func30, Tryd.ntmps30
  go_wp2
  all_goals
    go_ret
    refine ⟨ret_bool ?_, rfl⟩
    rw [Bool.eq_iff_iff]; simp [letB]; omega
theorem rdigit_any (c : UInt8) (w : World) : Calls Tryd.prog 31 #[.int .u8 c.toNat] w (Tells (digB c) w) := by
  go_enter Tryd.func31, Tryd.ntmps31
  go_wp2
  all_goals
    go_ret
    refine ⟨ret_bool ?_, rfl⟩
    rw [Bool.eq_iff_iff]; simp [digB]; omega
theorem wrd_let {c : UInt8} (h : letB c = true) : wrdB c = true := by unfold wrdB; rw [h]; rfl
theorem wrd_not {c : UInt8} (h : letB c = false) : wrdB c = digB c := by unfold wrdB; rw [h]; rfl
theorem inWord_any (c : UInt8) (w : World) : Calls Tryd.prog 34 #[.int .u8 c.toNat] w (Tells (wrdB c) w) := by
  cases h : letB c with
  | true =>
    have HW := Lib.hid (wrd_let h)
    have H := Lib.hid h
    clear h
    go_enter Tryd.func34, Tryd.ntmps34
    go_wp2_with fail
    refine (letter_any c _).mono ?_
    rw [H.out]
    rintro e w' ⟨rfl, rfl⟩
    go_wp2_with fail
    go_ret
    exact ⟨ret_bool HW.out.symm, rfl⟩
  | false =>
    have HW := Lib.hid (wrd_not h)
    have H := Lib.hid h
    clear h
    go_enter Tryd.func34, Tryd.ntmps34
    go_wp2_with fail
    refine (letter_any c _).mono ?_
    rw [H.out]
    rintro e w' ⟨rfl, rfl⟩
    go_wp2_with fail
    refine (digit_any c _).mono ?_
    rintro e w' ⟨rfl, rfl⟩
    go_wp2_with fail
    go_ret
    exact ⟨ret_bool HW.out.symm, rfl⟩
end Go.Proofs.YtgecocpcbfccgaaDoor
