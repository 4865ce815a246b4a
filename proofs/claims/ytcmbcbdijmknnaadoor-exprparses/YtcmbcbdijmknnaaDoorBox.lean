/-
  DERIVED. Layer 3: a box of four cells.
-/
import Derived.Test.YtcmbcbdijmknnaaDoorBase
namespace Go.Proofs.YtcmbcbdijmknnaaDoor
open Go.RowKit

def Box (w : World) (b : Nat) (a0 a1 a2 a3 : Value) : Prop := w.heap[b]? = some (.cells #[a0, a1, a2, a3] 34 (0, 0))
theorem Box.lt {w : World} {b : Nat} {a0 a1 a2 a3 : Value} (h : Box w b a0 a1 a2 a3) : b < w.heap.size := (Array.getElem?_eq_some_iff.1 h).1
theorem Box.cells {w : World} {b : Nat} {a0 a1 a2 a3 : Value} (h : Box w b a0 a1 a2 a3) :
    w.cell? ⟨b, 0, none⟩ = some a0 ∧ w.cell? ⟨b, 1, none⟩ = some a1 ∧ w.cell? ⟨b, 2, none⟩ = some a2 ∧ w.cell? ⟨b, 3, none⟩ = some a3 :=
  ⟨cell_of_row w b 0 _ 34 (0, 0) h, cell_of_row w b 1 _ 34 (0, 0) h, cell_of_row w b 2 _ 34 (0, 0) h, cell_of_row w b 3 _ 34 (0, 0) h⟩
theorem Box.free {w : World} {b : Nat} {a0 a1 a2 a3 : Value} (h : Box w b a0 a1 a2 a3) (j : Nat) : w.frozen? ⟨b, j, none⟩ = false := by
  unfold Box at h
  simp [World.frozen?, h]
theorem Box.new (w : World) (a0 a1 a2 a3 : Value) : Box (w.alloc (.cells #[a0, a1, a2, a3] 34)) w.heap.size a0 a1 a2 a3 := heap_alloc_new w _
theorem Box.on {w w' : World} {B b : Nat} {a0 a1 a2 a3 : Value} (h : Box w b a0 a1 a2 a3) (hb : Below B w w') (hB : b < B) : Box w' b a0 a1 a2 a3 := (hb.block b hB).trans h
theorem Box.draws {w : World} {b : Nat} {a0 a1 a2 a3 : Value} (h : Box w b a0 a1 a2 a3) (n : Nat) : Box (w.drewN n) b a0 a1 a2 a3 := h
theorem Box.set0 {w : World} {b : Nat} {a0 a1 a2 a3 : Value} (h : Box w b a0 a1 a2 a3) (u : Value) : Box (w.setCell ⟨b, 0, none⟩ u) b u a1 a2 a3 := by
  unfold Box at *; simp [World.setCell, Array.getElem?_modify, h]
theorem Box.set1 {w : World} {b : Nat} {a0 a1 a2 a3 : Value} (h : Box w b a0 a1 a2 a3) (u : Value) : Box (w.setCell ⟨b, 1, none⟩ u) b a0 u a2 a3 := by
  unfold Box at *; simp [World.setCell, Array.getElem?_modify, h]
theorem Box.set2 {w : World} {b : Nat} {a0 a1 a2 a3 : Value} (h : Box w b a0 a1 a2 a3) (u : Value) : Box (w.setCell ⟨b, 2, none⟩ u) b a0 a1 u a3 := by
  unfold Box at *; simp [World.setCell, Array.getElem?_modify, h]
theorem size_set (w : World) (p : Addr) (u : Value) : (w.setCell p u).heap.size = w.heap.size := by simp [World.setCell]
end Go.Proofs.YtcmbcbdijmknnaaDoor
