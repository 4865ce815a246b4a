/-
  DERIVED. Layer 1: what the frames of all eight laws share: from what the row lists to the table that strconv.Itoa reads; a world for the witness.
-/
import Derived.Test.YtnlodnkdppgddaaDoorCards
import Derived.Test.YtnlodnkdppgddaaDoorTie
import Derived.Test.YtnlodnkdppgddaaDoorParse
import Derived.ProofKit
import Derived.OpenShut
import Derived.ShutString
import Derived.ChangeOld
import Derived.Below
import Derived.Deep.DeepHandedRow
import Derived.Deep.DeepLaidRun
import Derived.Lib.LaidTab
import Derived.Stop.LaidErr
namespace Go.Proofs.YtnlodnkdppgddaaDoor
open Go.ChangeShapes Go.WideShapes Go.ChangeAt Go.RowKit

theorem own : ownKnob Tryd.prog.godebug = none := by kernel_rfl
theorem gTab : Tryd.prog.globalNamed (Tryd.prog.globals[0]?.map (·.name)).get! = some 0 := by kernel_rfl
theorem gTabType : (Tryd.prog.globals[0]?).map (·.type) = some 53 := by kernel_rfl
theorem cells53 : Tryd.prog.cellsOf 53 = 20 := by kernel_rfl
theorem cells47 : Tryd.prog.cellsOf 47 = 1 := by kernel_rfl

/-- WHAT THE ROWS' LIST GIVES: the table of powers of ten holds its twenty numbers. -/
theorem table {W : World} (h : laidMetH Tryd.prog Rows.wordsDoesRow.laid W) : Tab W := by
  have h2 := laidMet.tail (laidMet.tail (show laidMet Tryd.prog Rows.wordsDoesRow.laid W from h))
  exact Lib.tabIs_of_head (rest := []) gTab gTabType Tryd.underlying53 Tryd.underlying47 cells47 cells53 h2

def tab32 : List Int := [0, 1, 28, 2, 29, 14, 24, 3, 30, 22, 20, 15, 25, 17, 4, 8, 31, 27, 13, 23, 21, 19, 16, 7, 26, 12, 18, 6, 11, 5, 10, 9]
def tab64 : List Int := [0, 1, 56, 2, 57, 49, 28, 3, 61, 58, 42, 50, 38, 29, 17, 4, 62, 47, 59, 36, 45, 43, 51, 22, 53, 39, 33, 30, 24, 18, 12, 5, 63, 55, 48, 27, 60, 41, 37, 16, 46, 35, 44, 21, 52, 32, 23, 11, 54, 26, 40, 15, 34, 20, 31, 10, 25, 14, 19, 9, 13, 8, 7, 6]
/-- A block's cells written anew. -/
def fill (c : Array Value) (o : Obj) : Obj := match o with
  | .cells _ t frozen => .cells c t frozen
  | o => o
/-- A WORLD FOR THE WITNESS: the settled one, the three tables holding what their initialisers lay. -/
noncomputable def laidWorld (os : Os) : World :=
  { World.holding Tryd.prog os ⟨#[], #[], []⟩ with heap := (((World.holding Tryd.prog os ⟨#[], #[], []⟩).heap.modify 0 (fill (Lib.pow10Tab.map fun z => Value.int .u64 z).toArray)).modify 1 (fill (tab32.map fun z => Value.int .u8 z).toArray)).modify 2 (fill (tab64.map fun z => Value.int .u8 z).toArray) }
end Go.Proofs.YtnlodnkdppgddaaDoor
