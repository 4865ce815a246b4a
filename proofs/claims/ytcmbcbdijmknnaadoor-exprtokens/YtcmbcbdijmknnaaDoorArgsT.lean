/-
  DERIVED. Layer 3: a slice of tokens that is handed in, as the walk asks it.
-/
import Derived.Test.YtcmbcbdijmknnaaDoorArgs
import Derived.Test.YtcmbcbdijmknnaaDoorTokens
namespace Go.Proofs.YtcmbcbdijmknnaaDoor
open Go.ChangeShapes Go.WideShapes Go.ChangeAt Go.RowKit
open Go.ChangeMaps (open_string shut_string)

set_option maxRecDepth 100000
theorem cells34 : Tryd.prog.cellsOf 34 = 4 := by kernel_rfl
/-- What a struct of four cells, of a token's kinds, holds. -/
theorem tok_fields {H : Type} {enc : TypeId × Value → H} {W : World} {base fuel : Nat} {sp : Nat → Bool} {held : Bool} {cs : List Value} {x : DataW H × List MemPlace} (h : DataW.trod enc Tryd.prog W base sp held fuel 34 cs = some x) :
    ∃ r : Raw, cs = [.int .i64 r.kind, .string r.text, .int .i64 r.n, .int .i64 r.pl] := by
  obtain ⟨xs, n, _, _, hlen, hxl, hf⟩ := DataW.trod_struct Tryd.underlying34 h
  rw [cells34] at hlen
  match cs, hlen with
  | [c0, c1, c2, c3], _ =>
    match xs, hxl with
    | [y0, y1, y2, y3], _ =>
      have g0 : DataW.trod enc Tryd.prog W base sp held n 3 (([c0, c1, c2, c3].drop 0).take (Tryd.prog.cellsOf 3)) = some y0 := hf 0 _ rfl
      rw [cells3] at g0
      have g1 : DataW.trod enc Tryd.prog W base sp held n 9 (([c0, c1, c2, c3].drop 1).take (Tryd.prog.cellsOf 9)) = some y1 := hf 1 _ rfl
      rw [cells9] at g1
      have g2 : DataW.trod enc Tryd.prog W base sp held n 3 (([c0, c1, c2, c3].drop 2).take (Tryd.prog.cellsOf 3)) = some y2 := hf 2 _ rfl
      rw [cells3] at g2
      have g3 : DataW.trod enc Tryd.prog W base sp held n 3 (([c0, c1, c2, c3].drop 3).take (Tryd.prog.cellsOf 3)) = some y3 := hf 3 _ rfl
      rw [cells3] at g3
      obtain ⟨a, e0, _, _⟩ := DataW.trod_int Tryd.underlying3 (show DataW.trod enc Tryd.prog W base sp held n 3 [c0] = some y0 from g0)
      obtain ⟨t, e1, _, _⟩ := DataW.trod_string Tryd.underlying9 (show DataW.trod enc Tryd.prog W base sp held n 9 [c1] = some y1 from g1)
      obtain ⟨b, e2, _, _⟩ := DataW.trod_int Tryd.underlying3 (show DataW.trod enc Tryd.prog W base sp held n 3 [c2] = some y2 from g2)
      obtain ⟨c, e3, _, _⟩ := DataW.trod_int Tryd.underlying3 (show DataW.trod enc Tryd.prog W base sp held n 3 [c3] = some y3 from g3)
      simp only [List.cons.injEq, and_true] at e0 e1 e2 e3
      subst e0; subst e1; subst e2; subst e3
      exact ⟨⟨a, t, b, c⟩, rfl⟩
/-- A slice of tokens that is handed in, as the walk asks it. -/
theorem arg_tokens {H : Type} {enc : TypeId × Value → H} {W : World} {sp : Nat → Bool} {held : Bool} {A : Option Addr} {len cap fuel : Nat} {x : DataW H × List MemPlace} (h : DataW.trod enc Tryd.prog W 0 sp held fuel 22 [.slice A len cap] = some x) : ∃ R, ArgT W A len R := by
  rcases Go.Deep.open_slice Tryd.underlying22 h with ⟨hcs, _⟩ | ⟨a, len', cap', m, n, D, Pl, hcs, _, hl, _, hm, _, hi⟩
  · simp only [List.cons.injEq, and_true, Value.slice.injEq] at hcs
    obtain ⟨rfl, rfl, rfl⟩ := hcs
    exact ⟨fun _ => ⟨0, ByteArray.empty, 0, 0⟩, fun i hi => absurd hi (by omega)⟩
  · simp only [List.cons.injEq, and_true, Value.slice.injEq] at hcs
    obtain ⟨rfl, rfl, rfl⟩ := hcs
    have hml : len ≤ m := by rw [hm]; split <;> omega
    have key : ∀ i, i < len → ∃ (r : Raw) (b off : Nat), a = ⟨b, off, none⟩ ∧ b < W.heap.size ∧ W.cell? ⟨b, off + i * 4, none⟩ = some (.int .i64 r.kind) ∧ W.cell? ⟨b, off + i * 4 + 1, none⟩ = some (.string r.text) ∧
        W.cell? ⟨b, off + i * 4 + 2, none⟩ = some (.int .i64 r.n) ∧ W.cell? ⟨b, off + i * 4 + 3, none⟩ = some (.int .i64 r.pl) := by
      intro i hil
      obtain ⟨cs', hc, ht⟩ := hi i (by omega)
      rw [cells34] at hc
      obtain ⟨r, rfl⟩ := tok_fields ht
      obtain ⟨_, _, hat⟩ := World.cells?_some hc
      have h0 := hat 0 (by omega)
      have h1 := hat 1 (by omega)
      have h2 := hat 2 (by omega)
      have h3 := hat 3 (by omega)
      obtain ⟨b, off, spot⟩ := a
      have hspot : spot = none := by
        obtain ⟨cs0, hc0, ht0⟩ := hi 0 (by omega)
        rw [cells34] at hc0
        obtain ⟨r0, rfl⟩ := tok_fields ht0
        obtain ⟨_, _, hat0⟩ := World.cells?_some hc0
        simpa [Addr.add] using World.cell?_spot (hat0 0 (by omega))
      subst hspot
      rw [Go.WideShapes.add_plain, Go.WideShapes.add_plain] at h0 h1 h2 h3
      exact ⟨r, b, off, rfl, by simpa using World.block_lt_of_cell? W _ h0, h0, h1, h2, h3⟩
    refine ⟨fun i => if h : i < len then (key i h).choose else ⟨0, ByteArray.empty, 0, 0⟩, fun i hil => ?_⟩
    simp only [hil, dif_pos]
    obtain ⟨b, off, e, hb, h0, h1, h2, h3⟩ := (key i hil).choose_spec
    exact ⟨b, off, congrArg some e, hb, h0, h1, h2, h3⟩
end Go.Proofs.YtcmbcbdijmknnaaDoor
