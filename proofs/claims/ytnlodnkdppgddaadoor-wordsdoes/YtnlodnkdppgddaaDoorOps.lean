/-
  DERIVED. Layer 1: small facts that the contracts of words.One and words.Two lean on; what a call of two results comes back with.
-/
import Derived.Test.YtnlodnkdppgddaaDoorProg
import Derived.WalkKit
import Derived.WalkSpells
import Derived.WalkLawsBesides
import Derived.FnLit
import Derived.KernelRfl
namespace Go.Proofs.YtnlodnkdppgddaaDoor
open Go.RowKit

theorem mkf (fn : Fn) (first cap : Array Value) (w : World) : (Instr.makeFunc fn first cap).run Tryd.prog w = .ok (.func fn first cap) w := rfl
theorem eqlFN (f : Fn) (p c : Array Value) (w : World) : (binOp .eql 35 (.func f p c) .nilFunc).run Tryd.prog w = .ok (.bool false) w := by kernel_rfl
theorem eqlNN (w : World) : (binOp .eql 35 .nilFunc .nilFunc).run Tryd.prog w = .ok (.bool true) w := by kernel_rfl

/-- A truth as a number. -/
def bi (p : Bool) : Int := if p then 1 else 0
theorem bi_true : bi true = 1 := rfl
theorem bi_false : bi false = 0 := rfl
/-- What a call of two results comes back with, and that nothing that was there has turned. -/
def Gives2 (x y : Int) (w : World) (e : Ending) (w' : World) : Prop := e = .returned (.tuple #[.int .i64 x, .int .i64 y]) ∧ Below w.heap.size w w'
theorem gives2_of {x x' y : Int} {w w' : World} {e : Ending} (he : e = .returned (.tuple #[.int .i64 x', .int .i64 y])) (h : x' = x) (hb : Below w.heap.size w w') : Gives2 x y w e w' := by
  subst h; exact ⟨he, hb⟩

theorem below3 (w : World) (x y z : Obj) : Below w.heap.size w (((w.alloc x).alloc y).alloc z) :=
  (((Below.refl _ _).alloc (Nat.le_refl _) _).alloc (by simp) _).alloc (by simp; omega) _
theorem below2 (w : World) (x y : Obj) : Below w.heap.size w ((w.alloc x).alloc y) :=
  ((Below.refl _ _).alloc (Nat.le_refl _) _).alloc (by simp) _
theorem wrap64_zero : wrap64 0 = 0 := by unfold wrap64; decide
end Go.Proofs.YtnlodnkdppgddaaDoor
