/-
  DERIVED. Layer 2: what the frames of the laws share: from what the row lists to the table of signs; a world for the witness.
-/
import Derived.Test.YtgecocpcbfccgaaDoorCards
import Derived.Test.YtgecocpcbfccgaaDoorTie
import Derived.Test.YtgecocpcbfccgaaDoorSign
import Derived.ProofKit
import Derived.OpenShut
import Derived.ShutString
import Derived.ChangeOld
import Derived.Below
import Derived.Deep.DeepHandedRow
import Derived.Deep.DeepLaidRun
import Derived.Lib.LaidTab
import Derived.Stop.LaidErr
namespace Go.Proofs.YtgecocpcbfccgaaDoor
open Go.ChangeShapes Go.WideShapes Go.ChangeAt Go.RowKit

theorem own : ownKnob Tryd.prog.godebug = none := by kernel_rfl
theorem gTab : Tryd.prog.globalNamed (Tryd.prog.globals[0]?.map (·.name)).get! = some 0 := by kernel_rfl
theorem gTabType : (Tryd.prog.globals[0]?).map (·.type) = some 62 := by kernel_rfl
theorem cells62 : Tryd.prog.cellsOf 62 = 19 := by kernel_rfl
theorem cells9 : Tryd.prog.cellsOf 9 = 1 := by kernel_rfl

/-- A table of texts, as a row lists it. -/
def strData {H : Type} (ss : List (List UInt8)) : DataW H := .agg (ss.map fun s => .lit (.string s))
/-- One cell of a list of cells. -/
theorem one_cell {cs : List Value} {i : Nat} {v : Value} (h : (cs.drop (i * 1)).take 1 = [v]) : cs[i]? = some v := by
  rw [Nat.mul_one] at h
  have h1 : ((cs.drop i).take 1)[0]? = some v := by rw [h]; rfl
  rw [List.getElem?_take, if_pos (by decide), List.getElem?_drop] at h1
  exact h1
/-- An array of texts that is read as these texts has just these in its cells. -/
theorem strs_read {H : Type} {enc : TypeId × Value → H} {P : Program} {w : World} {base : Nat} {sp : Nat → Bool} {held : Bool} {fuel : Nat} {t e : TypeId} {n : Nat} {cs : List Value} {ss : List (List UInt8)} {p : List MemPlace}
    (ht : P.underlying t = some (.array n e)) (he : P.underlying e = some .string) (hce : P.cellsOf e = 1) (hct : P.cellsOf t = n)
    (h : DataW.trod enc P w base sp held fuel t cs = some (strData ss, p)) : cs = ss.map fun s => Value.string ⟨s.toArray⟩ := by
  obtain ⟨xs, m, _, hx, hcl, hxl, hat⟩ := DataW.trod_array ht h
  have hd : ss.map (fun s => (DataW.lit (.string s) : DataW H)) = xs.map (·.1) := by
    have h1 : strData ss = DataW.agg (xs.map (·.1)) := congrArg Prod.fst hx
    unfold strData at h1
    injection h1
  have hsl : ss.length = n := by rw [← hxl, ← List.length_map (f := fun s => (DataW.lit (.string s) : DataW H)), hd, List.length_map]
  refine List.ext_getElem? fun i => ?_
  rcases Nat.lt_or_ge i n with hi | hi
  · have hxi : xs[i]? = some (xs[i]'(by omega)) := List.getElem?_eq_getElem (by omega)
    have h2 := hat i hi
    rw [hce, hxi] at h2
    obtain ⟨z, hz, hy, _⟩ := DataW.trod_string he h2
    have h3 : (ss.map (fun s => (DataW.lit (.string s) : DataW H)))[i]? = some (DataW.lit (.string z.data.toList)) := by
      rw [hd, List.getElem?_map, hxi, hy]; rfl
    have hsi : ss[i]? = some (ss[i]'(by omega)) := List.getElem?_eq_getElem (by omega)
    rw [List.getElem?_map, hsi] at h3
    have h4 : ss[i]'(by omega) = z.data.toList := by
      injection h3 with h3
      injection h3 with h3
      injection h3
    rw [one_cell hz, List.getElem?_map, hsi, h4]
    cases z; simp
  · rw [List.getElem?_eq_none (by omega), List.getElem?_eq_none (by rw [List.length_map]; omega)]
/-- WHAT THE ROWS' LIST GIVES: the table holds its nineteen signs. -/
theorem table {W : World} (h : laidMetH Tryd.prog Rows.scanTextsRow.laid W) : Signs W := by
  have h2 : laidMet Tryd.prog (((Tryd.prog.globals[0]?.map (·.name)).get!, strData signTab) :: Rows.scanTextsRow.laid.drop 2) W := laidMet.tail (show laidMet Tryd.prog Rows.scanTextsRow.laid W from h)
  obtain ⟨ps, ⟨g', t', cs, fuel, p, q, hg', ht', hvar, hd, _, _⟩, _⟩ := h2
  obtain rfl := Option.some.inj (gTab.symm.trans hg')
  obtain rfl := Option.some.inj (gTabType.symm.trans ht')
  have hc := strs_read Tryd.underlying62 Tryd.underlying9 cells9 cells62 hd
  unfold World.var? at hvar
  rw [gTab] at hvar
  simp only [Option.bind_some] at hvar
  split at hvar
  · rename_i cs' t fr hh
    refine ⟨t, fr, ?_⟩
    rw [hh]
    have e : cs' = cs := Option.some.inj hvar
    rw [e, show cs = signVals from by unfold signVals; rw [← hc]]
  · cases hvar

/-- A datum of plain numbers and texts as cells. -/
def litVal : DataW Unit → List Value
  | .lit (.int k z) => [.int k z]
  | .lit (.string s) => [.string ⟨s.toArray⟩]
  | _ => []
def flat1 : DataW Unit → List Value
  | .agg ps => ps.flatMap litVal
  | d => litVal d
def flat2 : DataW Unit → List Value
  | .agg ps => ps.flatMap flat1
  | d => litVal d
/-- A block's cells written anew. -/
def fill (c : Array Value) (o : Obj) : Obj := match o with
  | .cells _ t frozen => .cells c t frozen
  | o => o
/-- A WORLD FOR THE WITNESS: the settled one, the three tables holding what their initialisers lay. -/
noncomputable def laidWorld (os : Os) : World :=
  { World.holding Tryd.prog os ⟨#[], #[], []⟩ with heap := (((World.holding Tryd.prog os ⟨#[], #[], []⟩).heap.modify 0 (fill signVals)).modify 2 (fill (flat1 Rows.laid_unicode_utf8_first).toArray)).modify 3 (fill (flat2 Rows.laid_unicode_utf8_acceptRanges).toArray) }
end Go.Proofs.YtgecocpcbfccgaaDoor
