/-
  DERIVED. Layer 3: what the frames of the laws share: from what the row lists to the tables; a world for the witness.
-/
import Derived.Test.YtcmbcbdijmknnaaDoorCards
import Derived.Test.YtcmbcbdijmknnaaDoorTie
import Derived.Test.YtcmbcbdijmknnaaDoorPart
import Derived.ProofKit
import Derived.OpenShut
import Derived.ShutString
import Derived.ChangeOld
import Derived.Below
import Derived.Deep.DeepHandedRow
import Derived.Deep.DeepLaidRun
import Derived.Lib.LaidTab
import Derived.Stop.LaidErr
namespace Go.Proofs.YtcmbcbdijmknnaaDoor
open Go.ChangeShapes Go.WideShapes Go.ChangeAt Go.RowKit

theorem own : ownKnob Tryd.prog.godebug = none := by kernel_rfl
theorem gSign : Tryd.prog.globalNamed (Tryd.prog.globals[0]?.map (·.name)).get! = some 0 := by kernel_rfl
theorem gSignType : (Tryd.prog.globals[0]?).map (·.type) = some 80 := by kernel_rfl
theorem gBind : Tryd.prog.globalNamed (Tryd.prog.globals[1]?.map (·.name)).get! = some 1 := by kernel_rfl
theorem gBindType : (Tryd.prog.globals[1]?).map (·.type) = some 87 := by kernel_rfl
theorem gPowType : (Tryd.prog.globals[2]?).map (·.type) = some 103 := by kernel_rfl
theorem cells80 : Tryd.prog.cellsOf 80 = 16 := by kernel_rfl
theorem cells87 : Tryd.prog.cellsOf 87 = 16 := by kernel_rfl
theorem cells103 : Tryd.prog.cellsOf 103 = 20 := by kernel_rfl
theorem cells97 : Tryd.prog.cellsOf 97 = 1 := by kernel_rfl
theorem cells9 : Tryd.prog.cellsOf 9 = 1 := by kernel_rfl
theorem cells3 : Tryd.prog.cellsOf 3 = 1 := by kernel_rfl

/-- A table of texts, as a row lists it. -/
def strData {H : Type} (ss : List (List UInt8)) : DataW H := .agg (ss.map fun s => .lit (.string s))
/-- One cell of a list of cells. -/
theorem one_cell {cs : List Value} {i : Nat} {v : Value} (h : (cs.drop (i * 1)).take 1 = [v]) : cs[i]? = some v := by
  rw [Nat.mul_one] at h
  have h1 : ((cs.drop i).take 1)[0]? = some v := by rw [h]; rfl
  rw [List.getElem?_take, if_pos (by decide), List.getElem?_drop] at h1
  exact h1
/-- An array of texts that is read as these texts has just these in its cells. -/
theorem strs_read {H : Type} {enc : TypeId × Value → H} {P : Program} {w : World} {base : Nat} {sp : Nat → Bool} {held : Bool} {fuel : Nat} {t e : TypeId} {n : Nat} {cs : List Value} {ss : List (List UInt8)} {p : List MemPlace}
    (ht : P.underlying t = some (.array n e)) (he : P.underlying e = some .string) (hce : P.cellsOf e = 1) (hct : P.cellsOf t = n)
    (h : DataW.trod enc P w base sp held fuel t cs = some (strData ss, p)) : cs = ss.map fun s => Value.string ⟨s.toArray⟩ := by
  obtain ⟨xs, m, _, hx, hcl, hxl, hat⟩ := DataW.trod_array ht h
  have hd : ss.map (fun s => (DataW.lit (.string s) : DataW H)) = xs.map (·.1) := by
    have h1 : strData ss = DataW.agg (xs.map (·.1)) := congrArg Prod.fst hx
    unfold strData at h1
    injection h1
  have hsl : ss.length = n := by rw [← hxl, ← List.length_map (f := fun s => (DataW.lit (.string s) : DataW H)), hd, List.length_map]
  refine List.ext_getElem? fun i => ?_
  rcases Nat.lt_or_ge i n with hi | hi
  · have hxi : xs[i]? = some (xs[i]'(by omega)) := List.getElem?_eq_getElem (by omega)
    have h2 := hat i hi
    rw [hce, hxi] at h2
    obtain ⟨z, hz, hy, _⟩ := DataW.trod_string he h2
    have h3 : (ss.map (fun s => (DataW.lit (.string s) : DataW H)))[i]? = some (DataW.lit (.string z.data.toList)) := by
      rw [hd, List.getElem?_map, hxi, hy]; rfl
    have hsi : ss[i]? = some (ss[i]'(by omega)) := List.getElem?_eq_getElem (by omega)
    rw [List.getElem?_map, hsi] at h3
    have h4 : ss[i]'(by omega) = z.data.toList := by
      injection h3 with h3
      injection h3 with h3
      injection h3
    rw [one_cell hz, List.getElem?_map, hsi, h4]
    cases z; simp
  · rw [List.getElem?_eq_none (by omega), List.getElem?_eq_none (by rw [List.length_map]; omega)]
/-- A variable that has just these cells. -/
theorem var_block {W : World} {name : String} {g : Nat} {cs : Array Value} (hg : Tryd.prog.globalNamed name = some g) (h : W.var? Tryd.prog name = some cs) : ∃ t fr, W.heap[g]? = some (.cells cs t fr) := by
  unfold World.var? at h
  rw [hg] at h
  simp only [Option.bind_some] at h
  split at h
  · rename_i cs' t fr hh
    have e : cs' = cs := Option.some.inj h
    exact ⟨t, fr, by rw [hh, e]⟩
  · cases h
/-- WHAT THE ROWS' LIST GIVES: the tables hold what they should. -/
theorem table {W : World} (h : laidMetH Tryd.prog Rows.exprBackRow.laid W) : Tabs W := by
  have h3 := laidMet.tail (laidMet.tail (show laidMet Tryd.prog Rows.exprBackRow.laid W from h))
  have h4 := laidMet.tail h3
  have h5 := laidMet.tail h4
  refine ⟨?_, ?_, ?_⟩
  · have h6 : laidMet Tryd.prog (((Tryd.prog.globals[0]?.map (·.name)).get!, strData signsTab) :: Rows.exprBackRow.laid.drop 4) W := h4
    obtain ⟨ps, ⟨g', t', cs, fuel, p, q, hg', ht', hvar, hd, _, _⟩, _⟩ := h6
    obtain rfl := Option.some.inj (gSign.symm.trans hg')
    obtain rfl := Option.some.inj (gSignType.symm.trans ht')
    have hc := strs_read Tryd.underlying80 Tryd.underlying9 cells9 cells80 hd
    obtain ⟨t, fr, hb⟩ := var_block gSign hvar
    refine ⟨t, fr, ?_⟩
    rw [hb, show cs = signVals from by unfold signVals; rw [← hc]]
  · have h6 : laidMet Tryd.prog (((Tryd.prog.globals[1]?.map (·.name)).get!, Lib.tabData .i64 bindsTab) :: []) W := h5
    have ht := Lib.tabIs_of_head gBind gBindType Tryd.underlying87 Tryd.underlying3 cells3 cells87 h6
    exact var_block gBind ht
  · exact Lib.tabIs_of_head (rest := Rows.exprBackRow.laid.drop 3) gPow gPowType Tryd.underlying103 Tryd.underlying97 cells97 cells103 h3

/-- A datum of plain numbers and texts as cells. -/
def litVal : DataW Unit → List Value
  | .lit (.int k z) => [.int k z]
  | .lit (.string s) => [.string ⟨s.toArray⟩]
  | _ => []
def flat1 : DataW Unit → List Value
  | .agg ps => ps.flatMap litVal
  | d => litVal d
/-- A block's cells written anew. -/
def fill (c : Array Value) (o : Obj) : Obj := match o with
  | .cells _ t frozen => .cells c t frozen
  | o => o
/-- A WORLD FOR THE WITNESS: the settled one, the tables holding what their initialisers lay. -/
noncomputable def laidWorld (os : Os) : World :=
  { World.holding Tryd.prog os ⟨#[], #[], []⟩ with heap := (((((World.holding Tryd.prog os ⟨#[], #[], []⟩).heap.modify 0 (fill signVals)).modify 1 (fill bindVals)).modify 2 (fill (flat1 Rows.laid_internal_strconv_uint64pow10).toArray)).modify 3 (fill (flat1 Rows.laid_math_bits_deBruijn32tab).toArray)).modify 4 (fill (flat1 Rows.laid_math_bits_deBruijn64tab).toArray) }
end Go.Proofs.YtcmbcbdijmknnaaDoor
