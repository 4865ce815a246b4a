/-
  DERIVED. Layer 3: the reader of expr.Parse as it stands in memory; parts of expressions, and what joins make of them.
-/
import Derived.Test.YtcmbcbdijmknnaaDoorTabs
namespace Go.Proofs.YtcmbcbdijmknnaaDoor
open Go.RowKit

/-- Nothing that was there has turned but block g. -/
structure Keeps (g : Nat) (w w' : World) : Prop where
  os : w'.os = w.os
  tape : w'.tape = w.tape
  output : w'.output = w.output
  size : w.heap.size ≤ w'.heap.size
  block : ∀ k, k < w.heap.size → k ≠ g → w'.heap[k]? = w.heap[k]?
theorem Keeps.refl (g : Nat) (w : World) : Keeps g w w := ⟨rfl, rfl, rfl, Nat.le_refl _, fun _ _ _ => rfl⟩
theorem Keeps.trans {g : Nat} {w w1 w2 : World} (h : Keeps g w w1) (k : Keeps g w1 w2) : Keeps g w w2 :=
  ⟨k.os.trans h.os, k.tape.trans h.tape, k.output.trans h.output, Nat.le_trans h.size k.size, fun i hi hg => (k.block i (Nat.lt_of_lt_of_le hi h.size) hg).trans (h.block i hi hg)⟩
theorem Keeps.of {g : Nat} {w w' : World} (h : Below w.heap.size w w') : Keeps g w w' := ⟨h.os, h.tape, h.output, h.size, fun k hk _ => h.block k hk⟩
theorem Keeps.set {g j : Nat} {w w' : World} {v : Value} (h : Keeps g w w') : Keeps g w (w'.setCell ⟨g, j, none⟩ v) := by
  refine ⟨h.os, h.tape, h.output, by simpa using h.size, fun k hk hg => ?_⟩
  rw [← h.block k hk hg]
  simp only [World.setCell]
  rw [Array.getElem?_modify, if_neg (fun e => hg e.symm)]
theorem Keeps.below {g : Nat} {w w' : World} (h : Keeps g w w') {B : Nat} (hB : B ≤ g) (hw : B ≤ w.heap.size) : Below B w w' :=
  ⟨h.os, h.tape, h.output, h.size, fun k hk => h.block k (by omega) (by omega)⟩
theorem Keeps.cell {g : Nat} {w w' : World} (h : Keeps g w w') {b o : Nat} (hb : b < w.heap.size) (hg : b ≠ g) : w'.cell? ⟨b, o, none⟩ = w.cell? ⟨b, o, none⟩ := World.cell?_of_block (h.block b hb hg)
theorem Keeps.frozen {g : Nat} {w w' : World} (h : Keeps g w w') {b o : Nat} (hb : b < w.heap.size) (hg : b ≠ g) : w'.frozen? ⟨b, o, none⟩ = w.frozen? ⟨b, o, none⟩ := World.frozen?_of_block (h.block b hb hg)

/-- The reader: its tokens, where it stands, within how many. -/
structure Rd (w : World) (g : Nat) (v : Value) (i d : Nat) : Prop where
  lt : g < w.heap.size
  c0 : w.cell? ⟨g, 0, none⟩ = some v
  c1 : w.cell? ⟨g, 1, none⟩ = some (.int .i64 i)
  c2 : w.cell? ⟨g, 2, none⟩ = some (.int .i64 d)
  f1 : w.frozen? ⟨g, 1, none⟩ = false
  f2 : w.frozen? ⟨g, 2, none⟩ = false
theorem Rd.on {w w' : World} {g : Nat} {v : Value} {i d : Nat} (h : Rd w g v i d) (hb : Below w.heap.size w w') : Rd w' g v i d :=
  ⟨Nat.lt_of_lt_of_le h.lt hb.size, (hb.cell (p := ⟨g, 0, none⟩) h.lt).trans h.c0, (hb.cell (p := ⟨g, 1, none⟩) h.lt).trans h.c1, (hb.cell (p := ⟨g, 2, none⟩) h.lt).trans h.c2, (hb.frozen (p := ⟨g, 1, none⟩) h.lt).trans h.f1, (hb.frozen (p := ⟨g, 2, none⟩) h.lt).trans h.f2⟩
theorem Rd.set1 {w : World} {g : Nat} {v : Value} {i d : Nat} (h : Rd w g v i d) (j : Nat) : Rd (w.setCell ⟨g, 1, none⟩ (.int .i64 j)) g v j d :=
  ⟨by simpa using h.lt, (World.cell?_setCell_other _ _ _ _ (by simp)).trans h.c0, World.cell?_setCell_same _ _ _ h.c1, (World.cell?_setCell_other _ _ _ _ (by simp)).trans h.c2, by simpa using h.f1, by simpa using h.f2⟩
theorem Rd.set2 {w : World} {g : Nat} {v : Value} {i d : Nat} (h : Rd w g v i d) (j : Nat) : Rd (w.setCell ⟨g, 2, none⟩ (.int .i64 j)) g v i j :=
  ⟨by simpa using h.lt, (World.cell?_setCell_other _ _ _ _ (by simp)).trans h.c0, (World.cell?_setCell_other _ _ _ _ (by simp)).trans h.c1, World.cell?_setCell_same _ _ _ h.c2, by simpa using h.f1, by simpa using h.f2⟩
/-- The tokens lie below the reader. -/
def ReadB (g : Nat) (w : World) (v : Value) (L : List Tok) : Prop :=
  ∃ A c, v = .slice A L.length c ∧ L.length ≤ c ∧ (∀ i t, L[i]? = some t → ∃ b, A = some ⟨b, 0, none⟩ ∧ b < g ∧
    w.cell? ⟨b, i * 4, none⟩ = some (.int .i64 t.kind) ∧ w.cell? ⟨b, i * 4 + 1, none⟩ = some (.string ⟨t.text.toArray⟩) ∧ w.cell? ⟨b, i * 4 + 2, none⟩ = some (.int .i64 t.n) ∧ w.cell? ⟨b, i * 4 + 3, none⟩ = some (.int .i64 t.pl))
theorem ReadB.read {g : Nat} {w : World} {v : Value} {L : List Tok} (h : ReadB g w v L) (hg : g < w.heap.size) : ReadT w v L := by
  obtain ⟨A, c, hv, hc, hr⟩ := h
  refine ⟨A, c, hv, hc, fun i t hi => ?_⟩
  obtain ⟨b, hA, hb, r⟩ := hr i t hi
  exact ⟨b, hA, by omega, r⟩
theorem ReadT.toB {w : World} {v : Value} {L : List Tok} (h : ReadT w v L) {g : Nat} (hg : w.heap.size ≤ g) : ReadB g w v L := by
  obtain ⟨A, c, hv, hc, hr⟩ := h
  refine ⟨A, c, hv, hc, fun i t hi => ?_⟩
  obtain ⟨b, hA, hb, r⟩ := hr i t hi
  exact ⟨b, hA, by omega, r⟩
theorem ReadB.keep {g : Nat} {w w' : World} {v : Value} {L : List Tok} (h : ReadB g w v L) (hg : g < w.heap.size) (hk : Keeps g w w') : ReadB g w' v L := by
  obtain ⟨A, c, hv, hc, hr⟩ := h
  refine ⟨A, c, hv, hc, fun i t hi => ?_⟩
  obtain ⟨b, hA, hb, h0, h1, h2, h3⟩ := hr i t hi
  have e : ∀ j, w'.cell? ⟨b, j, none⟩ = w.cell? ⟨b, j, none⟩ := fun j => hk.cell (by omega) (by omega)
  exact ⟨b, hA, hb, by rw [e]; exact h0, by rw [e]; exact h1, by rw [e]; exact h2, by rw [e]; exact h3⟩
theorem gPow : Tryd.prog.globalNamed (Tryd.prog.globals[2]?.map (·.name)).get! = some 2 := by kernel_rfl
theorem Tabs.lt2 {w : World} (h : Tabs w) : 2 < w.heap.size := by
  have h3 := h.pows
  unfold Lib.TabIs World.var? at h3
  rw [gPow] at h3
  simp only [Option.bind_some] at h3
  rcases Nat.lt_or_ge 2 w.heap.size with h' | h'
  · exact h'
  · rw [Array.getElem?_eq_none h'] at h3; simp at h3
theorem Tabs.keep {g : Nat} {w w' : World} (h : Tabs w) (h1 : 2 < g) (hg : g < w.heap.size) (hk : Keeps g w w') : Tabs w' := by
  obtain ⟨⟨t, fr, s1⟩, ⟨t2, fr2, s2⟩, s3⟩ := h
  refine ⟨⟨t, fr, (hk.block 0 (by omega) (by omega)).trans s1⟩, ⟨t2, fr2, (hk.block 1 (by omega) (by omega)).trans s2⟩, ?_⟩
  unfold Lib.TabIs World.var? at *
  rw [gPow] at *
  simp only [Option.bind_some] at *
  rw [hk.block 2 (by omega) (by omega)]; exact s3
theorem OwnN.keep {g B : Nat} {w w' : World} {v : Value} {L : List Nod} (h : OwnN w B v L) (hB : g < B) (hk : Keeps g w w') : OwnN w' B v L := by
  obtain ⟨h1, h2⟩ := h
  refine ⟨h1, ?_⟩
  rcases h2 with h2 | ⟨b, cap, cur, hv, hg, hh, r⟩
  · exact .inl h2
  · exact .inr ⟨b, cap, cur, hv, hg, (hk.block b (Array.getElem?_eq_some_iff.1 hh).1 (by omega)).trans hh, r⟩
end Go.Proofs.YtcmbcbdijmknnaaDoor
