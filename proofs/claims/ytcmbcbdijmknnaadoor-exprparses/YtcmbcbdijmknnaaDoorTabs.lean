/-
  DERIVED. Layer 3: the tables that the rows list, as the walks take them; the contract of words.Text; what is shown of an expression.
-/
import Derived.Test.YtcmbcbdijmknnaaDoorRight
import Derived.Test.YtcmbcbdijmknnaaDoorShelf
import Derived.Lib.AppendIntMem
import Derived.Lib.ItoaLen
namespace Go.Proofs.YtcmbcbdijmknnaaDoor
open Go.RowKit

def signVals : Array Value := (signsTab.map fun t => Value.string ⟨t.toArray⟩).toArray
def bindVals : Array Value := (bindsTab.map fun z => Value.int .i64 z).toArray
/-- The tables stand in the world. -/
structure Tabs (w : World) : Prop where
  signs : ∃ t fr, w.heap[0]? = some (.cells signVals t fr)
  binds : ∃ t fr, w.heap[1]? = some (.cells bindVals t fr)
  pows : Lib.TabIs Tryd.prog w (Tryd.prog.globals[2]?.map (·.name)).get! .u64 Lib.pow10Tab
theorem Tabs.lt {w : World} (h : Tabs w) : 1 < w.heap.size := by
  obtain ⟨t, fr, h⟩ := h.binds
  exact (Array.getElem?_eq_some_iff.1 h).1
theorem Tabs.on {w w' : World} (h : Tabs w) (hb : Below w.heap.size w w') : Tabs w' := by
  have hl := h.lt
  obtain ⟨⟨t, fr, h1⟩, ⟨t2, fr2, h2⟩, h3⟩ := h
  exact ⟨⟨t, fr, (hb.block 0 (by omega)).trans h1⟩, ⟨t2, fr2, (hb.block 1 hl).trans h2⟩, Lib.tabBelow_of_tabIs h3 w' hb⟩
theorem Tabs.alloc {w : World} (h : Tabs w) (o : Obj) : Tabs (w.alloc o) := h.on ((Below.refl _ _).alloc (Nat.le_refl _) _)
theorem Tabs.sign {w : World} (h : Tabs w) {k : Nat} (hk : k < 16) : w.cell? ⟨0, k, none⟩ = some (.string ⟨(signT k).toArray⟩) := by
  obtain ⟨t, fr, h1⟩ := h.signs
  rw [cell_of_row w 0 k signVals t fr h1]
  have : k = 0 ∨ k = 1 ∨ k = 2 ∨ k = 3 ∨ k = 4 ∨ k = 5 ∨ k = 6 ∨ k = 7 ∨ k = 8 ∨ k = 9 ∨ k = 10 ∨ k = 11 ∨ k = 12 ∨ k = 13 ∨ k = 14 ∨ k = 15 := by omega
  rcases this with rfl | rfl | rfl | rfl | rfl | rfl | rfl | rfl | rfl | rfl | rfl | rfl | rfl | rfl | rfl | rfl <;> rfl
theorem Tabs.bind {w : World} (h : Tabs w) {k : Nat} (hk : k < 16) : w.cell? ⟨1, k, none⟩ = some (.int .i64 (bindT k)) := by
  obtain ⟨t, fr, h1⟩ := h.binds
  rw [cell_of_row w 1 k bindVals t fr h1]
  have : k = 0 ∨ k = 1 ∨ k = 2 ∨ k = 3 ∨ k = 4 ∨ k = 5 ∨ k = 6 ∨ k = 7 ∨ k = 8 ∨ k = 9 ∨ k = 10 ∨ k = 11 ∨ k = 12 ∨ k = 13 ∨ k = 14 ∨ k = 15 := by omega
  rcases this with rfl | rfl | rfl | rfl | rfl | rfl | rfl | rfl | rfl | rfl | rfl | rfl | rfl | rfl | rfl | rfl <;> rfl
/-- What a call of one text comes back with. -/
def GivesSB (l : List UInt8) (w : World) (e : Ending) (w' : World) : Prop := e = .returned (.string ⟨l.toArray⟩) ∧ Below w.heap.size w w'
theorem givesSB_of {l l' : List UInt8} {w w' : World} {e : Ending} (he : e = .returned (.string ⟨l'.toArray⟩)) (h : l' = l) (hb : Below w.heap.size w w') : GivesSB l w e w' := by
  subst h; exact ⟨he, hb⟩
set_option maxHeartbeats 1000000 in
theorem wtext_any (n : Int) (h0 : -9223372036854775808 ≤ n) (h1 : n ≤ 9223372036854775807) (w : World) (ht : Tabs w) : Calls Tryd.prog 62 #[.int .i64 n] w (GivesSB (Lib.itoa n) w) := by
  have HT := Lib.hid ht.pows
  clear ht
  go_enter Tryd.func62, Tryd.ntmps62
  go_wp2_with fail
  refine (Tryd.strconv_Itoa n h0 h1 _ HT.out).mono ?_
  rintro e w' ⟨rfl, k, os, rfl⟩
  go_wp2
  go_ret
  exact ⟨rfl, Lib.below_grow _ _ (Nat.le_refl _) _ _⟩

/-! ### What is shown. -/
def showX (inner : Bool) : Ex → List UInt8
  | .leaf a => if a.op = 1 then Lib.itoa a.n else a.name
  | .un a x => signT a.op.toNat ++ showX true x
  | .bin a x y => if inner = true then [40] ++ (showX true x ++ [32] ++ signT a.op.toNat ++ [32] ++ showX true y) ++ [41] else showX true x ++ [32] ++ signT a.op.toNat ++ [32] ++ showX true y
/-- The nodes' names and numbers are no greater than those of an expression that is right. -/
def SmallX (x : Ex) : Prop := ∀ a ∈ x.flat, a.name.length ≤ 16 ∧ 0 ≤ a.n ∧ a.n ≤ 4294967296
theorem sign_len (k : Nat) : (signT k).length ≤ 2 := by
  by_cases h : k < 16
  · revert h
    have : ∀ k : Fin 16, (signT k).length ≤ 2 := by decide
    exact fun h => this ⟨k, h⟩
  · unfold signT; rw [List.getD_eq_getElem?_getD, List.getElem?_eq_none (by show 16 ≤ k; omega)]; decide
theorem show_len (x : Ex) : ∀ (b : Bool), SmallX x → (showX b x).length ≤ 21 * x.size := by
  induction x with
  | leaf a =>
    intro b h
    have ha := h a (by simp [Ex.flat])
    unfold showX
    split
    · have := Lib.itoa_length_le a.n (by omega) (by omega)
      simp only [Ex.size]; omega
    · simp only [Ex.size]; omega
  | un a x ih =>
    intro b h
    have := ih true (fun c hc => h c (by simp [Ex.flat, hc]))
    have h2 := sign_len a.op.toNat
    simp only [showX, List.length_append, Ex.size]; omega
  | bin a x y ih1 ih2 =>
    intro b h
    have i1 := ih1 true (fun c hc => h c (by simp [Ex.flat, hc]))
    have i2 := ih2 true (fun c hc => h c (by simp [Ex.flat, hc]))
    have h2 := sign_len a.op.toNat
    simp only [showX, Ex.size]
    split
    · simp only [List.length_append, List.length_cons, List.length_nil]; omega
    · simp only [List.length_append, List.length_cons, List.length_nil]; omega
end Go.Proofs.YtcmbcbdijmknnaaDoor
