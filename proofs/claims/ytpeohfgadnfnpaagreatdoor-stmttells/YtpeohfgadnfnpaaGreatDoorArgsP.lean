/-
  DERIVED. Layer 4: slices of nodes and of statements that are handed in, as the walks ask them.
-/
import Derived.Test.YtpeohfgadnfnpaaGreatDoorFrameP
import Derived.Test.YtpeohfgadnfnpaaGreatDoorQ50
import Derived.Deep.Slices
import Derived.Carry
namespace Go.Proofs.YtpeohfgadnfnpaaGreatDoor
open Go.ChangeShapes Go.WideShapes Go.ChangeAt Go.RowKit
open Go.ChangeMaps (open_string shut_string)

set_option maxRecDepth 100000
theorem laidOut : laidOutB Tryz.prog = true := by kernel_rfl
theorem cells33 : Tryz.prog.cellsOf 33 = 4 := by kernel_rfl
theorem cells31 : Tryz.prog.cellsOf 31 = 9 := by kernel_rfl
theorem cells29 : Tryz.prog.cellsOf 29 = 1 := by kernel_rfl
/-- What a struct of four cells, of a node's kinds, holds. -/
theorem nod_fields {H : Type} {enc : TypeId × Value → H} {W : World} {base fuel : Nat} {sp : Nat → Bool} {held : Bool} {cs : List Value} {x : DataW H × List MemPlace} (h : DataW.trod enc Tryz.prog W base sp held fuel 33 cs = some x) :
    ∃ r : RawN, cs = [.int .i64 r.op, .int .i64 r.n, .string r.name, .int .i64 r.pl] := by
  obtain ⟨xs, n, _, _, hlen, hxl, hf⟩ := DataW.trod_struct Tryz.underlying33 h
  rw [cells33] at hlen
  match cs, hlen with
  | [c0, c1, c2, c3], _ =>
    match xs, hxl with
    | [y0, y1, y2, y3], _ =>
      have g0 : DataW.trod enc Tryz.prog W base sp held n 3 (([c0, c1, c2, c3].drop 0).take (Tryz.prog.cellsOf 3)) = some y0 := hf 0 _ rfl
      rw [cells3] at g0
      have g1 : DataW.trod enc Tryz.prog W base sp held n 3 (([c0, c1, c2, c3].drop 1).take (Tryz.prog.cellsOf 3)) = some y1 := hf 1 _ rfl
      rw [cells3] at g1
      have g2 : DataW.trod enc Tryz.prog W base sp held n 9 (([c0, c1, c2, c3].drop 2).take (Tryz.prog.cellsOf 9)) = some y2 := hf 2 _ rfl
      rw [cells9] at g2
      have g3 : DataW.trod enc Tryz.prog W base sp held n 3 (([c0, c1, c2, c3].drop 3).take (Tryz.prog.cellsOf 3)) = some y3 := hf 3 _ rfl
      rw [cells3] at g3
      obtain ⟨a, e0, _, _⟩ := DataW.trod_int Tryz.underlying3 (show DataW.trod enc Tryz.prog W base sp held n 3 [c0] = some y0 from g0)
      obtain ⟨b, e1, _, _⟩ := DataW.trod_int Tryz.underlying3 (show DataW.trod enc Tryz.prog W base sp held n 3 [c1] = some y1 from g1)
      obtain ⟨t, e2, _, _⟩ := DataW.trod_string Tryz.underlying9 (show DataW.trod enc Tryz.prog W base sp held n 9 [c2] = some y2 from g2)
      obtain ⟨c, e3, _, _⟩ := DataW.trod_int Tryz.underlying3 (show DataW.trod enc Tryz.prog W base sp held n 3 [c3] = some y3 from g3)
      simp only [List.cons.injEq, and_true] at e0 e1 e2 e3
      subst e0; subst e1; subst e2; subst e3
      exact ⟨⟨a, b, t, c⟩, rfl⟩
/-- A slice of nodes that is handed in, as the walk asks it. -/
theorem arg_nodes {H : Type} {enc : TypeId × Value → H} {W : World} {sp : Nat → Bool} {held : Bool} {A : Option Addr} {len cap fuel : Nat} {x : DataW H × List MemPlace} (h : DataW.trod enc Tryz.prog W 0 sp held fuel 29 [.slice A len cap] = some x) : ∃ R, ArgN W A len R := by
  rcases Go.Deep.open_slice Tryz.underlying29 h with ⟨hcs, _⟩ | ⟨a, len', cap', m, n, D, Pl, hcs, _, hl, _, hm, _, hi⟩
  · simp only [List.cons.injEq, and_true, Value.slice.injEq] at hcs
    obtain ⟨rfl, rfl, rfl⟩ := hcs
    exact ⟨fun _ => ⟨0, 0, ByteArray.empty, 0⟩, fun i hi => absurd hi (by omega)⟩
  · simp only [List.cons.injEq, and_true, Value.slice.injEq] at hcs
    obtain ⟨rfl, rfl, rfl⟩ := hcs
    have hml : len ≤ m := by rw [hm]; split <;> omega
    have key : ∀ i, i < len → ∃ (r : RawN) (b off : Nat), a = ⟨b, off, none⟩ ∧ b < W.heap.size ∧ W.cell? ⟨b, off + i * 4, none⟩ = some (.int .i64 r.op) ∧ W.cell? ⟨b, off + i * 4 + 1, none⟩ = some (.int .i64 r.n) ∧
        W.cell? ⟨b, off + i * 4 + 2, none⟩ = some (.string r.name) ∧ W.cell? ⟨b, off + i * 4 + 3, none⟩ = some (.int .i64 r.pl) := by
      intro i hil
      obtain ⟨cs', hc, ht⟩ := hi i (by omega)
      rw [cells33] at hc
      obtain ⟨r, rfl⟩ := nod_fields ht
      obtain ⟨_, _, hat⟩ := World.cells?_some hc
      have h0 := hat 0 (by omega)
      have h1 := hat 1 (by omega)
      have h2 := hat 2 (by omega)
      have h3 := hat 3 (by omega)
      obtain ⟨b, off, spot⟩ := a
      have hspot : spot = none := by
        obtain ⟨cs0, hc0, ht0⟩ := hi 0 (by omega)
        rw [cells33] at hc0
        obtain ⟨r0, rfl⟩ := nod_fields ht0
        obtain ⟨_, _, hat0⟩ := World.cells?_some hc0
        simpa [Addr.add] using World.cell?_spot (hat0 0 (by omega))
      subst hspot
      rw [Go.WideShapes.add_plain, Go.WideShapes.add_plain] at h0 h1 h2 h3
      exact ⟨r, b, off, rfl, by simpa using World.block_lt_of_cell? W _ h0, h0, h1, h2, h3⟩
    refine ⟨fun i => if h : i < len then (key i h).choose else ⟨0, 0, ByteArray.empty, 0⟩, fun i hil => ?_⟩
    simp only [hil, dif_pos]
    obtain ⟨b, off, e, hb, h0, h1, h2, h3⟩ := (key i hil).choose_spec
    exact ⟨b, off, congrArg some e, hb, h0, h1, h2, h3⟩
/-- A cell that holds a slice of nodes. -/
theorem nodes_field {H : Type} {enc : TypeId × Value → H} {W : World} {sp : Nat → Bool} {held : Bool} {fuel : Nat} {c : Value} {x : DataW H × List MemPlace} (h : DataW.trod enc Tryz.prog W 0 sp held fuel 29 [c] = some x) : ∃ A n p R, c = .slice A n p ∧ ArgN W A n R := by
  rcases Go.Deep.open_slice Tryz.underlying29 h with ⟨hcs, _⟩ | ⟨a, len', cap', m, n, D, Pl, hcs, _⟩
  · simp only [List.cons.injEq, and_true] at hcs
    subst hcs
    obtain ⟨R, hR⟩ := arg_nodes h
    exact ⟨_, _, _, R, rfl, hR⟩
  · simp only [List.cons.injEq, and_true] at hcs
    subst hcs
    obtain ⟨R, hR⟩ := arg_nodes h
    exact ⟨_, _, _, R, rfl, hR⟩
/-- What a struct of nine cells, of a statement's kinds, holds. -/
theorem stm_fields {H : Type} {enc : TypeId × Value → H} {W : World} {fuel : Nat} {sp : Nat → Bool} {held : Bool} {cs : List Value} {x : DataW H × List MemPlace} (h : DataW.trod enc Tryz.prog W 0 sp held fuel 31 cs = some x) :
    ∃ r : RawS, cs = [.int .i64 r.kind, .string r.reg, .string r.name, .slice r.AE r.nE r.cE, .slice r.AF r.nF r.cF, .int .i64 r.n, .int .i64 r.body, .int .i64 r.els, .int .i64 r.pl] ∧ ArgN W r.AE r.nE r.RE ∧ ArgN W r.AF r.nF r.RF := by
  obtain ⟨xs, n, _, _, hlen, hxl, hf⟩ := DataW.trod_struct Tryz.underlying31 h
  rw [cells31] at hlen
  match cs, hlen with
  | [c0, c1, c2, c3, c4, c5, c6, c7, c8], _ =>
    match xs, hxl with
    | [y0, y1, y2, y3, y4, y5, y6, y7, y8], _ =>
      have g0 : DataW.trod enc Tryz.prog W 0 sp held n 3 (([c0, c1, c2, c3, c4, c5, c6, c7, c8].drop 0).take (Tryz.prog.cellsOf 3)) = some y0 := hf 0 _ rfl
      rw [cells3] at g0
      have g1 : DataW.trod enc Tryz.prog W 0 sp held n 9 (([c0, c1, c2, c3, c4, c5, c6, c7, c8].drop 1).take (Tryz.prog.cellsOf 9)) = some y1 := hf 1 _ rfl
      rw [cells9] at g1
      have g2 : DataW.trod enc Tryz.prog W 0 sp held n 9 (([c0, c1, c2, c3, c4, c5, c6, c7, c8].drop 2).take (Tryz.prog.cellsOf 9)) = some y2 := hf 2 _ rfl
      rw [cells9] at g2
      have g3 : DataW.trod enc Tryz.prog W 0 sp held n 29 (([c0, c1, c2, c3, c4, c5, c6, c7, c8].drop 3).take (Tryz.prog.cellsOf 29)) = some y3 := hf 3 _ rfl
      rw [cells29] at g3
      have g4 : DataW.trod enc Tryz.prog W 0 sp held n 29 (([c0, c1, c2, c3, c4, c5, c6, c7, c8].drop 4).take (Tryz.prog.cellsOf 29)) = some y4 := hf 4 _ rfl
      rw [cells29] at g4
      have g5 : DataW.trod enc Tryz.prog W 0 sp held n 3 (([c0, c1, c2, c3, c4, c5, c6, c7, c8].drop 5).take (Tryz.prog.cellsOf 3)) = some y5 := hf 5 _ rfl
      rw [cells3] at g5
      have g6 : DataW.trod enc Tryz.prog W 0 sp held n 3 (([c0, c1, c2, c3, c4, c5, c6, c7, c8].drop 6).take (Tryz.prog.cellsOf 3)) = some y6 := hf 6 _ rfl
      rw [cells3] at g6
      have g7 : DataW.trod enc Tryz.prog W 0 sp held n 3 (([c0, c1, c2, c3, c4, c5, c6, c7, c8].drop 7).take (Tryz.prog.cellsOf 3)) = some y7 := hf 7 _ rfl
      rw [cells3] at g7
      have g8 : DataW.trod enc Tryz.prog W 0 sp held n 3 (([c0, c1, c2, c3, c4, c5, c6, c7, c8].drop 8).take (Tryz.prog.cellsOf 3)) = some y8 := hf 8 _ rfl
      rw [cells3] at g8
      obtain ⟨a0, e0, _, _⟩ := DataW.trod_int Tryz.underlying3 (show DataW.trod enc Tryz.prog W 0 sp held n 3 [c0] = some y0 from g0)
      obtain ⟨a1, e1, _, _⟩ := DataW.trod_string Tryz.underlying9 (show DataW.trod enc Tryz.prog W 0 sp held n 9 [c1] = some y1 from g1)
      obtain ⟨a2, e2, _, _⟩ := DataW.trod_string Tryz.underlying9 (show DataW.trod enc Tryz.prog W 0 sp held n 9 [c2] = some y2 from g2)
      obtain ⟨A3, n3, p3, R3, e3, hR3⟩ := nodes_field (show DataW.trod enc Tryz.prog W 0 sp held n 29 [c3] = some y3 from g3)
      obtain ⟨A4, n4, p4, R4, e4, hR4⟩ := nodes_field (show DataW.trod enc Tryz.prog W 0 sp held n 29 [c4] = some y4 from g4)
      obtain ⟨a5, e5, _, _⟩ := DataW.trod_int Tryz.underlying3 (show DataW.trod enc Tryz.prog W 0 sp held n 3 [c5] = some y5 from g5)
      obtain ⟨a6, e6, _, _⟩ := DataW.trod_int Tryz.underlying3 (show DataW.trod enc Tryz.prog W 0 sp held n 3 [c6] = some y6 from g6)
      obtain ⟨a7, e7, _, _⟩ := DataW.trod_int Tryz.underlying3 (show DataW.trod enc Tryz.prog W 0 sp held n 3 [c7] = some y7 from g7)
      obtain ⟨a8, e8, _, _⟩ := DataW.trod_int Tryz.underlying3 (show DataW.trod enc Tryz.prog W 0 sp held n 3 [c8] = some y8 from g8)
      simp only [List.cons.injEq, and_true] at e0 e1 e2 e5 e6 e7 e8
      subst e0; subst e1; subst e2; subst e3; subst e4; subst e5; subst e6; subst e7; subst e8
      exact ⟨⟨a0, a1, a2, A3, n3, p3, R3, A4, n4, p4, R4, a5, a6, a7, a8⟩, rfl, hR3, hR4⟩
/-- A slice of statements that is handed in, as the walk asks it. -/
theorem arg_stmts {H : Type} {enc : TypeId × Value → H} {W : World} {sp : Nat → Bool} {held : Bool} {A : Option Addr} {len cap fuel : Nat} {x : DataW H × List MemPlace} (h : DataW.trod enc Tryz.prog W 0 sp held fuel 24 [.slice A len cap] = some x) : ∃ R, ArgS W A len R := by
  rcases Go.Deep.open_slice Tryz.underlying24 h with ⟨hcs, _⟩ | ⟨a, len', cap', m, n, D, Pl, hcs, _, hl, _, hm, _, hi⟩
  · simp only [List.cons.injEq, and_true, Value.slice.injEq] at hcs
    obtain ⟨rfl, rfl, rfl⟩ := hcs
    exact ⟨fun _ => ⟨0, ByteArray.empty, ByteArray.empty, none, 0, 0, fun _ => ⟨0, 0, ByteArray.empty, 0⟩, none, 0, 0, fun _ => ⟨0, 0, ByteArray.empty, 0⟩, 0, 0, 0, 0⟩, fun i hi => absurd hi (by omega)⟩
  · simp only [List.cons.injEq, and_true, Value.slice.injEq] at hcs
    obtain ⟨rfl, rfl, rfl⟩ := hcs
    have hml : len ≤ m := by rw [hm]; split <;> omega
    have key : ∀ i, i < len → ∃ (r : RawS) (b off : Nat), a = ⟨b, off, none⟩ ∧ b < W.heap.size ∧ W.cell? ⟨b, off + i * 9, none⟩ = some (.int .i64 r.kind) ∧ W.cell? ⟨b, off + i * 9 + 1, none⟩ = some (.string r.reg) ∧ W.cell? ⟨b, off + i * 9 + 2, none⟩ = some (.string r.name) ∧ W.cell? ⟨b, off + i * 9 + 3, none⟩ = some (.slice r.AE r.nE r.cE) ∧ W.cell? ⟨b, off + i * 9 + 4, none⟩ = some (.slice r.AF r.nF r.cF) ∧ W.cell? ⟨b, off + i * 9 + 5, none⟩ = some (.int .i64 r.n) ∧ W.cell? ⟨b, off + i * 9 + 6, none⟩ = some (.int .i64 r.body) ∧ W.cell? ⟨b, off + i * 9 + 7, none⟩ = some (.int .i64 r.els) ∧ W.cell? ⟨b, off + i * 9 + 8, none⟩ = some (.int .i64 r.pl) ∧ ArgN W r.AE r.nE r.RE ∧ ArgN W r.AF r.nF r.RF := by
      intro i hil
      obtain ⟨cs', hc, ht⟩ := hi i (by omega)
      rw [cells31] at hc
      obtain ⟨r, rfl, hE, hF⟩ := stm_fields ht
      obtain ⟨_, _, hat⟩ := World.cells?_some hc
      have h0 := hat 0 (by omega)
      have h1 := hat 1 (by omega)
      have h2 := hat 2 (by omega)
      have h3 := hat 3 (by omega)
      have h4 := hat 4 (by omega)
      have h5 := hat 5 (by omega)
      have h6 := hat 6 (by omega)
      have h7 := hat 7 (by omega)
      have h8 := hat 8 (by omega)
      obtain ⟨b, off, spot⟩ := a
      have hspot : spot = none := by
        obtain ⟨cs0, hc0, ht0⟩ := hi 0 (by omega)
        rw [cells31] at hc0
        obtain ⟨r0, rfl, _, _⟩ := stm_fields ht0
        obtain ⟨_, _, hat0⟩ := World.cells?_some hc0
        simpa [Addr.add] using World.cell?_spot (hat0 0 (by omega))
      subst hspot
      rw [Go.WideShapes.add_plain, Go.WideShapes.add_plain] at h0 h1 h2 h3 h4 h5 h6 h7 h8
      exact ⟨r, b, off, rfl, by simpa using World.block_lt_of_cell? W _ h0, h0, h1, h2, h3, h4, h5, h6, h7, h8, hE, hF⟩
    refine ⟨fun i => if h : i < len then (key i h).choose else ⟨0, ByteArray.empty, ByteArray.empty, none, 0, 0, fun _ => ⟨0, 0, ByteArray.empty, 0⟩, none, 0, 0, fun _ => ⟨0, 0, ByteArray.empty, 0⟩, 0, 0, 0, 0⟩, fun i hil => ?_⟩
    simp only [hil, dif_pos]
    obtain ⟨b, off, e, hb, h0, h1, h2, h3, h4, h5, h6, h7, h8, hE, hF⟩ := (key i hil).choose_spec
    exact ⟨b, off, congrArg some e, hb, h0, h1, h2, h3, h4, h5, h6, h7, h8, hE, hF⟩
end Go.Proofs.YtpeohfgadnfnpaaGreatDoor
