/-
  DERIVED. Layer 4: what the frames of the laws share: from what the row lists to the tables; a world for the witness.
-/
import Derived.Test.YtpeohfgadnfnpaaGreatDoorCards
import Derived.Test.YtpeohfgadnfnpaaGreatDoorTie
import Derived.Test.YtpeohfgadnfnpaaGreatDoorQ05
import Derived.ProofKit
import Derived.OpenShut
import Derived.ShutString
import Derived.ChangeOld
import Derived.Below
import Derived.Deep.DeepHandedRow
import Derived.Deep.DeepWitnessRowRef
import Derived.Deep.DeepLaidRun
import Derived.Lib.LaidTab
import Derived.Stop.LaidErr
namespace Go.Proofs.YtpeohfgadnfnpaaGreatDoor
open Go.ChangeShapes Go.WideShapes Go.ChangeAt Go.RowKit

theorem own : ownKnob Tryz.prog.godebug = none := by kernel_rfl
theorem gOwn : Tryz.prog.globalNamed (Tryz.prog.globals[0]?.map (·.name)).get! = some 0 := by kernel_rfl
theorem gOwnType : (Tryz.prog.globals[0]?).map (·.type) = some 65 := by kernel_rfl
theorem gForm : Tryz.prog.globalNamed (Tryz.prog.globals[1]?.map (·.name)).get! = some 1 := by kernel_rfl
theorem gFormType : (Tryz.prog.globals[1]?).map (·.type) = some 65 := by kernel_rfl
theorem gSign : Tryz.prog.globalNamed (Tryz.prog.globals[5]?.map (·.name)).get! = some 5 := by kernel_rfl
theorem gSignType : (Tryz.prog.globals[5]?).map (·.type) = some 158 := by kernel_rfl
theorem gBind : Tryz.prog.globalNamed (Tryz.prog.globals[6]?.map (·.name)).get! = some 6 := by kernel_rfl
theorem gBindType : (Tryz.prog.globals[6]?).map (·.type) = some 188 := by kernel_rfl
theorem gPowType : (Tryz.prog.globals[7]?).map (·.type) = some 191 := by kernel_rfl
theorem gSpaceType : (Tryz.prog.globals[2]?).map (·.type) = some 109 := by kernel_rfl
theorem cells65 : Tryz.prog.cellsOf 65 = 15 := by kernel_rfl
theorem cells158 : Tryz.prog.cellsOf 158 = 16 := by kernel_rfl
theorem cells188 : Tryz.prog.cellsOf 188 = 16 := by kernel_rfl
theorem cells191 : Tryz.prog.cellsOf 191 = 20 := by kernel_rfl
theorem cells109 : Tryz.prog.cellsOf 109 = 256 := by kernel_rfl
theorem cells180 : Tryz.prog.cellsOf 180 = 1 := by kernel_rfl
theorem cells9 : Tryz.prog.cellsOf 9 = 1 := by kernel_rfl
theorem cells5 : Tryz.prog.cellsOf 5 = 1 := by kernel_rfl
theorem cells3 : Tryz.prog.cellsOf 3 = 1 := by kernel_rfl

/-- A table of texts, as a row lists it. -/
def strData {H : Type} (ss : List (List UInt8)) : DataW H := .agg (ss.map fun s => .lit (.string s))
/-- One cell of a list of cells. -/
theorem one_cell {cs : List Value} {i : Nat} {v : Value} (h : (cs.drop (i * 1)).take 1 = [v]) : cs[i]? = some v := by
  rw [Nat.mul_one] at h
  have h1 : ((cs.drop i).take 1)[0]? = some v := by rw [h]; rfl
  rw [List.getElem?_take, if_pos (by decide), List.getElem?_drop] at h1
  exact h1
/-- An array of texts that is read as these texts has just these in its cells. -/
theorem strs_read {H : Type} {enc : TypeId × Value → H} {P : Program} {w : World} {base : Nat} {sp : Nat → Bool} {held : Bool} {fuel : Nat} {t e : TypeId} {n : Nat} {cs : List Value} {ss : List (List UInt8)} {p : List MemPlace}
    (ht : P.underlying t = some (.array n e)) (he : P.underlying e = some .string) (hce : P.cellsOf e = 1) (hct : P.cellsOf t = n)
    (h : DataW.trod enc P w base sp held fuel t cs = some (strData ss, p)) : cs = ss.map fun s => Value.string ⟨s.toArray⟩ := by
  obtain ⟨xs, m, _, hx, hcl, hxl, hat⟩ := DataW.trod_array ht h
  have hd : ss.map (fun s => (DataW.lit (.string s) : DataW H)) = xs.map (·.1) := by
    have h1 : strData ss = DataW.agg (xs.map (·.1)) := congrArg Prod.fst hx
    unfold strData at h1
    injection h1
  have hsl : ss.length = n := by rw [← hxl, ← List.length_map (f := fun s => (DataW.lit (.string s) : DataW H)), hd, List.length_map]
  refine List.ext_getElem? fun i => ?_
  rcases Nat.lt_or_ge i n with hi | hi
  · have hxi : xs[i]? = some (xs[i]'(by omega)) := List.getElem?_eq_getElem (by omega)
    have h2 := hat i hi
    rw [hce, hxi] at h2
    obtain ⟨z, hz, hy, _⟩ := DataW.trod_string he h2
    have h3 : (ss.map (fun s => (DataW.lit (.string s) : DataW H)))[i]? = some (DataW.lit (.string z.data.toList)) := by
      rw [hd, List.getElem?_map, hxi, hy]; rfl
    have hsi : ss[i]? = some (ss[i]'(by omega)) := List.getElem?_eq_getElem (by omega)
    rw [List.getElem?_map, hsi] at h3
    have h4 : ss[i]'(by omega) = z.data.toList := by
      injection h3 with h3
      injection h3 with h3
      injection h3
    rw [one_cell hz, List.getElem?_map, hsi, h4]
    cases z; simp
  · rw [List.getElem?_eq_none (by omega), List.getElem?_eq_none (by rw [List.length_map]; omega)]
/-- A variable that has just these cells. -/
theorem var_block {W : World} {name : String} {g : Nat} {cs : Array Value} (hg : Tryz.prog.globalNamed name = some g) (h : W.var? Tryz.prog name = some cs) : ∃ t fr, W.heap[g]? = some (.cells cs t fr) := by
  unfold World.var? at h
  rw [hg] at h
  simp only [Option.bind_some] at h
  split at h
  · rename_i cs' t fr hh
    have e : cs' = cs := Option.some.inj h
    exact ⟨t, fr, by rw [hh, e]⟩
  · cases h
/-- A table of texts at the list's head. -/
theorem strs_head {W : World} {g : Nat} {t : TypeId} {n : Nat} {name : String} {ss : List (List UInt8)} {rest : List (String × DataW Unit)} (hg : Tryz.prog.globalNamed name = some g) (ht : (Tryz.prog.globals[g]?).map (·.type) = some t) (hu : Tryz.prog.underlying t = some (.array n 9)) (hc : Tryz.prog.cellsOf t = n) (h : laidMet Tryz.prog ((name, strData ss) :: rest) W) : ∃ t fr, W.heap[g]? = some (.cells (ss.map fun s => Value.string ⟨s.toArray⟩).toArray t fr) := by
  obtain ⟨ps, ⟨g', t', cs, fuel, p, q, hg', ht', hvar, hd, _, _⟩, _⟩ := h
  obtain rfl := Option.some.inj (hg.symm.trans hg')
  obtain rfl := Option.some.inj (ht.symm.trans ht')
  have hcs := strs_read hu Tryz.underlying9 cells9 hc hd
  obtain ⟨t2, fr, hb⟩ := var_block hg hvar
  exact ⟨t2, fr, by rw [hb, show cs = (ss.map fun s => Value.string ⟨s.toArray⟩).toArray from by rw [← hcs]]⟩
set_option maxRecDepth 100000 in
/-- WHAT THE ROWS' LIST GIVES: the tables hold what they should. -/
theorem table {W : World} (h : laidMetH Tryz.prog Rows.stmtBackRow.laid W) : Tabs W := by
  have h2 := laidMet.tail (laidMet.tail (show laidMet Tryz.prog Rows.stmtBackRow.laid W from h))
  have h4 := laidMet.tail (laidMet.tail h2)
  have h5 := laidMet.tail h4
  have h6 := laidMet.tail h5
  have h7 := laidMet.tail h6
  have h8 := laidMet.tail h7
  refine ⟨?_, ?_, ?_, ?_, ?_, ?_⟩
  · exact strs_head (ss := ownedTab) (rest := Rows.stmtBackRow.laid.drop 8) gOwn gOwnType Tryz.underlying65 cells65 h7
  · exact strs_head (ss := formsTab) (rest := []) gForm gFormType Tryz.underlying65 cells65 h8
  · exact Lib.tabIs_of_head (rest := Rows.stmtBackRow.laid.drop 5) gSpace gSpaceType Tryz.underlying109 Tryz.underlying5 cells5 cells109 h4
  · exact strs_head (ss := signsTab) (rest := Rows.stmtBackRow.laid.drop 6) gSign gSignType Tryz.underlying158 cells158 h5
  · have h6' : laidMet Tryz.prog (((Tryz.prog.globals[6]?.map (·.name)).get!, Lib.tabData .i64 bindsTab) :: Rows.stmtBackRow.laid.drop 7) W := h6
    exact var_block gBind (Lib.tabIs_of_head gBind gBindType Tryz.underlying188 Tryz.underlying3 cells3 cells188 h6')
  · exact Lib.tabIs_of_head (rest := Rows.stmtBackRow.laid.drop 3) gPow gPowType Tryz.underlying191 Tryz.underlying180 cells180 cells191 h2

/-- A datum of plain numbers and texts as cells. -/
def litVal : DataW Unit → List Value
  | .lit (.int k z) => [.int k z]
  | .lit (.string s) => [.string ⟨s.toArray⟩]
  | _ => []
def flat1 : DataW Unit → List Value
  | .agg ps => ps.flatMap litVal
  | d => litVal d
/-- A block's cells written anew. -/
def fill (c : Array Value) (o : Obj) : Obj := match o with
  | .cells _ t frozen => .cells c t frozen
  | o => o
def r16 : Array Value := (([9, 13, 1, 32, 133, 101, 160, 5760, 5600, 8192, 8202, 1, 8232, 8233, 1, 8239, 8287, 48, 12288, 12288, 1] : List Int).map fun z => Value.int .u16 z).toArray
/-- A WORLD FOR THE WITNESS: the settled one, the tables holding what their initialisers lay. -/
noncomputable def laidWorld (os : Os) : World :=
  { World.holding Tryz.prog os ⟨#[], #[], []⟩ with heap := ((((((((((((World.holding Tryz.prog os ⟨#[], #[], []⟩).heap.modify 0 (fill ownedVals)).modify 1 (fill formsVals)).modify 2 (fill (flat1 Rows.laid_strings_asciiSpace).toArray)).modify 3 (fill #[.pointer (some ⟨16, 0, none⟩)])).modify 5 (fill signVals)).modify 6 (fill bindVals)).modify 7 (fill (flat1 Rows.laid_internal_strconv_uint64pow10).toArray)).modify 8 (fill (flat1 Rows.laid_math_bits_deBruijn32tab).toArray)).modify 9 (fill (flat1 Rows.laid_math_bits_deBruijn64tab).toArray)).push (.cells #[.slice (some ⟨17, 0, none⟩) 7 7, .slice none 0 0, .int .i64 2] 150)).push (.cells r16 153)) }
theorem held_size (os : Os) : (World.holding Tryz.prog os ⟨#[], #[], []⟩).heap.size = 16 := by kernel_rfl
end Go.Proofs.YtpeohfgadnfnpaaGreatDoor
