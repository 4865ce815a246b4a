/-
  Proved: the law leadlinelaw03.ExprTokens answers true for all tokens and every number, and leaves its arguments as they were. Conditions: the package-level tables that the row lists hold what the program's text lays (the card ties them to it).
-/
import Derived.Test.YtcmbcbdijmknnaaDoorFrame
import Derived.Test.YtcmbcbdijmknnaaDoorCut
import Derived.Deep.Slices
import Derived.Carry
import Derived.Test.YtcmbcbdijmknnaaDoorParses
import Derived.Laws.BitsAllLaws
import Derived.Laws.BitsLemmas
/-
  DERIVED. Layer 3: a slice of nodes that is handed in, as the walks ask it.
-/
namespace Go.Proofs.YtcmbcbdijmknnaaDoor
open Go.ChangeShapes Go.WideShapes Go.ChangeAt Go.RowKit
open Go.ChangeMaps (open_string shut_string)

set_option maxRecDepth 100000
theorem laidOut : laidOutB Tryd.prog = true := by kernel_rfl
theorem cells30 : Tryd.prog.cellsOf 30 = 4 := by kernel_rfl
/-- What a struct of four cells, of a node's kinds, holds. -/
theorem nod_fields {H : Type} {enc : TypeId × Value → H} {W : World} {base fuel : Nat} {sp : Nat → Bool} {held : Bool} {cs : List Value} {x : DataW H × List MemPlace} (h : DataW.trod enc Tryd.prog W base sp held fuel 30 cs = some x) :
    ∃ r : RawN, cs = [.int .i64 r.op, .int .i64 r.n, .string r.name, .int .i64 r.pl] := by
  obtain ⟨xs, n, _, _, hlen, hxl, hf⟩ := DataW.trod_struct Tryd.underlying30 h
  rw [cells30] at hlen
  match cs, hlen with
  | [c0, c1, c2, c3], _ =>
    match xs, hxl with
    | [y0, y1, y2, y3], _ =>
      have g0 : DataW.trod enc Tryd.prog W base sp held n 3 (([c0, c1, c2, c3].drop 0).take (Tryd.prog.cellsOf 3)) = some y0 := hf 0 _ rfl
      rw [cells3] at g0
      have g1 : DataW.trod enc Tryd.prog W base sp held n 3 (([c0, c1, c2, c3].drop 1).take (Tryd.prog.cellsOf 3)) = some y1 := hf 1 _ rfl
      rw [cells3] at g1
      have g2 : DataW.trod enc Tryd.prog W base sp held n 9 (([c0, c1, c2, c3].drop 2).take (Tryd.prog.cellsOf 9)) = some y2 := hf 2 _ rfl
      rw [cells9] at g2
      have g3 : DataW.trod enc Tryd.prog W base sp held n 3 (([c0, c1, c2, c3].drop 3).take (Tryd.prog.cellsOf 3)) = some y3 := hf 3 _ rfl
      rw [cells3] at g3
      obtain ⟨a, e0, _, _⟩ := DataW.trod_int Tryd.underlying3 (show DataW.trod enc Tryd.prog W base sp held n 3 [c0] = some y0 from g0)
      obtain ⟨b, e1, _, _⟩ := DataW.trod_int Tryd.underlying3 (show DataW.trod enc Tryd.prog W base sp held n 3 [c1] = some y1 from g1)
      obtain ⟨t, e2, _, _⟩ := DataW.trod_string Tryd.underlying9 (show DataW.trod enc Tryd.prog W base sp held n 9 [c2] = some y2 from g2)
      obtain ⟨c, e3, _, _⟩ := DataW.trod_int Tryd.underlying3 (show DataW.trod enc Tryd.prog W base sp held n 3 [c3] = some y3 from g3)
      simp only [List.cons.injEq, and_true] at e0 e1 e2 e3
      subst e0; subst e1; subst e2; subst e3
      exact ⟨⟨a, b, t, c⟩, rfl⟩
/-- A slice of nodes that is handed in, as the walk asks it. -/
theorem arg_nodes {H : Type} {enc : TypeId × Value → H} {W : World} {sp : Nat → Bool} {held : Bool} {A : Option Addr} {len cap fuel : Nat} {x : DataW H × List MemPlace} (h : DataW.trod enc Tryd.prog W 0 sp held fuel 24 [.slice A len cap] = some x) : ∃ R, ArgN W A len R := by
  rcases Go.Deep.open_slice Tryd.underlying24 h with ⟨hcs, _⟩ | ⟨a, len', cap', m, n, D, Pl, hcs, _, hl, _, hm, _, hi⟩
  · simp only [List.cons.injEq, and_true, Value.slice.injEq] at hcs
    obtain ⟨rfl, rfl, rfl⟩ := hcs
    exact ⟨fun _ => ⟨0, 0, ByteArray.empty, 0⟩, fun i hi => absurd hi (by omega)⟩
  · simp only [List.cons.injEq, and_true, Value.slice.injEq] at hcs
    obtain ⟨rfl, rfl, rfl⟩ := hcs
    have hml : len ≤ m := by rw [hm]; split <;> omega
    have key : ∀ i, i < len → ∃ (r : RawN) (b off : Nat), a = ⟨b, off, none⟩ ∧ b < W.heap.size ∧ W.cell? ⟨b, off + i * 4, none⟩ = some (.int .i64 r.op) ∧ W.cell? ⟨b, off + i * 4 + 1, none⟩ = some (.int .i64 r.n) ∧
        W.cell? ⟨b, off + i * 4 + 2, none⟩ = some (.string r.name) ∧ W.cell? ⟨b, off + i * 4 + 3, none⟩ = some (.int .i64 r.pl) := by
      intro i hil
      obtain ⟨cs', hc, ht⟩ := hi i (by omega)
      rw [cells30] at hc
      obtain ⟨r, rfl⟩ := nod_fields ht
      obtain ⟨_, _, hat⟩ := World.cells?_some hc
      have h0 := hat 0 (by omega)
      have h1 := hat 1 (by omega)
      have h2 := hat 2 (by omega)
      have h3 := hat 3 (by omega)
      obtain ⟨b, off, spot⟩ := a
      have hspot : spot = none := by
        obtain ⟨cs0, hc0, ht0⟩ := hi 0 (by omega)
        rw [cells30] at hc0
        obtain ⟨r0, rfl⟩ := nod_fields ht0
        obtain ⟨_, _, hat0⟩ := World.cells?_some hc0
        simpa [Addr.add] using World.cell?_spot (hat0 0 (by omega))
      subst hspot
      rw [Go.WideShapes.add_plain, Go.WideShapes.add_plain] at h0 h1 h2 h3
      exact ⟨r, b, off, rfl, by simpa using World.block_lt_of_cell? W _ h0, h0, h1, h2, h3⟩
    refine ⟨fun i => if h : i < len then (key i h).choose else ⟨0, 0, ByteArray.empty, 0⟩, fun i hil => ?_⟩
    simp only [hil, dif_pos]
    obtain ⟨b, off, e, hb, h0, h1, h2, h3⟩ := (key i hil).choose_spec
    exact ⟨b, off, congrArg some e, hb, h0, h1, h2, h3⟩
end Go.Proofs.YtcmbcbdijmknnaaDoor

/-
  DERIVED. Layer 3: the walk of the law ExprTokens: for all tokens and every number it is true.
-/
namespace Go.Proofs.YtcmbcbdijmknnaaDoor
open Go.RowKit

/-- A token as it is handed in: whatever its numbers and its text. -/
structure Raw where
  kind : Int
  text : ByteArray
  n : Int
  pl : Int
/-- A slice of tokens that is handed in. -/
def ArgT (w : World) (A : Option Addr) (n : Nat) (R : Nat → Raw) : Prop :=
  ∀ i, i < n → ∃ b off, A = some ⟨b, off, none⟩ ∧ b < w.heap.size ∧ w.cell? ⟨b, off + i * 4, none⟩ = some (.int .i64 (R i).kind) ∧ w.cell? ⟨b, off + i * 4 + 1, none⟩ = some (.string (R i).text) ∧
    w.cell? ⟨b, off + i * 4 + 2, none⟩ = some (.int .i64 (R i).n) ∧ w.cell? ⟨b, off + i * 4 + 3, none⟩ = some (.int .i64 (R i).pl)
/-- What becomes of it. -/
def rawTok (r : Raw) : Tok := ⟨r.kind, (r.text.extract 0 (min (r.text.size : Int) 40).toNat).data.toList, r.n, (bits .and .i64 r.pl 65535).toNat⟩
def rawL (R : Nat → Raw) (k : Nat) : List Tok := (List.range k).map fun i => rawTok (R i)
theorem rawL_succ (R : Nat → Raw) (k : Nat) : rawL R (k + 1) = rawL R k ++ [rawTok (R k)] := by simp [rawL, List.range_succ]
theorem raw_len (R : Nat → Raw) (k : Nat) : (rawL R k).length = k := by simp [rawL]
theorem raw_small (R : Nat → Raw) (k : Nat) : ∀ t ∈ rawL R k, t.pl ≤ 65535 ∧ t.text.length ≤ 40 := by
  intro t ht
  simp only [rawL, List.mem_map] at ht
  obtain ⟨i, _, rfl⟩ := ht
  have h := and_ffff (R i).pl
  refine ⟨by simp only [rawTok]; omega, ?_⟩
  show ((R i).text.extract 0 (min ((R i).text.size : Int) 40).toNat).data.toList.length ≤ 40
  rw [len_data, ByteArray.size_extract]; omega
theorem empty_tok (w : World) : OwnT (w.alloc (.cells #[] 34)) w.heap.size (.slice (some ⟨w.heap.size, 0, none⟩) 0 0) [] :=
  ⟨rfl, .inr ⟨w.heap.size, 0, #[], rfl, Nat.le_refl _, heap_alloc_new w _, by decide, by decide, rfl, rfl⟩⟩
theorem raw_cells {W2 : World} (r : Raw) (t : ByteArray) (q : Int) (ht : t = r.text.extract 0 (min (r.text.size : Int) 40).toNat) (hq : q = bits .and .i64 r.pl 65535) (b : Nat) (hb : b = W2.heap.size) :
    ∀ j u, (tokCells (rawTok r))[j]? = some u → (W2.alloc (.cells #[.int .i64 r.kind, .string t, .int .i64 r.n, .int .i64 q] 34)).cell? ((⟨b, 0, none⟩ : Addr).add j) = some u := by
  subst hb
  have h := tok_cells (W2 := W2) (rawTok r)
  have e1 : (⟨(rawTok r).text.toArray⟩ : ByteArray) = t := by rw [ht]; apply bytes_ext; simp [rawTok]
  have e2 : ((rawTok r).pl : Int) = q := by have := and_ffff r.pl; rw [hq]; simp only [rawTok]; omega
  rw [e1, e2] at h
  exact h

theorem raw_smallT (R : Nat → Raw) (k : Nat) : SmallT (rawL R k) := fun t ht => by
  have := raw_small R k t ht
  omega

set_option maxRecDepth 100000 in
set_option maxHeartbeats 8000000 in
theorem tokensLaw_any (A : Option Addr) (n c : Nat) (R : Nat → Raw) (i : Int) (w : World) (hA : ArgT w A n R) (ht : Tabs w) : Calls Tryd.prog 4 #[.slice A n c, .int .i64 i] w (IsTrue w) := by
  obtain ⟨i0, hi, hz0, hz1, hz2⟩ := info_parts info31
  have HZ := Lib.hid (show Tryd.prog.info? 34 = some i0 ∧ i0.zero = some (.agg #[.int .i64 0, .string ⟨#[]⟩, .int .i64 0, .int .i64 0]) ∧ i0.size = 4 ∧ i0.bytes = 40 from ⟨hi, hz0, hz1, hz2⟩)
  have HT := Lib.hid ht
  have HA := Lib.hid hA
  clear hi hz0 hz1 hz2 ht hA
  go_enter Tryd.func4, Tryd.ntmps4
  go_wp2_with fail
  go_loopw [5, 6] (fun v x wr => ∃ k : Nat, k ≤ n ∧ k ≤ 80 ∧ x = .int .i64 k ∧ OwnT wr w.heap.size v (rawL R k) ∧ Below w.heap.size w wr) (fun _ x _ => 80 - (intOf x).toNat)
  case atStart => exact ⟨0, Nat.zero_le _, Nat.zero_le _, rfl, empty_tok w, (Below.refl _ _).alloc (Nat.le_refl _) _⟩
  case round =>
    obtain ⟨k, hkn, hk60, rfl, hown, hbel⟩ := hrel
    have HO := Lib.hid hown
    have HB := Lib.hid hbel
    have hsz := hbel.size
    clear hown
    by_cases hgo : k < n ∧ k < 80
    · obtain ⟨hlt, hl6⟩ := hgo
      obtain ⟨b, off, hAA, hbl, y0, y1, y2, y3⟩ := HA.out k hlt
      subst hAA
      have x0 := (hbel.cell (p := ⟨b, off + k * 4, none⟩) hbl).trans y0
      have x1 := (hbel.cell (p := ⟨b, off + k * 4 + 1, none⟩) hbl).trans y1
      have x2 := (hbel.cell (p := ⟨b, off + k * 4 + 2, none⟩) hbl).trans y2
      have x3 := (hbel.cell (p := ⟨b, off + k * 4 + 3, none⟩) hbl).trans y3
      have HS := Lib.hid (rawL_succ R k)
      have hrl := raw_len R k
      clear y0 y1 y2 y3 hbel
      generalize R k = r at *
      generalize hG : rawL R k = G at *
      have hG60 : G.length ≤ 79 := by omega
      clear hrl hG
      go_wp2_with (at_builtin; refine wpList_append_own _ rfl (.tmp 43) (.tmp 45) 22 rfl w.heap.size 34 i0 (.agg #[.int .i64 0, .string ⟨#[]⟩, .int .i64 0, .int .i64 0]) 4 40 Tryd.underlying22 HZ.out.1 HZ.out.2.1 HZ.out.2.2.1 HZ.out.2.2.2 rfl (by decide) _ G.length (cellsT G) rfl ?dO ⟨wr.heap.size + 1, 0, none⟩ 1 1 (tokCells (rawTok r)) rfl rfl ?d1 ?d2 ?d3 ?d4 ?d5 ?_)
      case dO => exact own_on HO.out (((Below.refl _ _).alloc (Nat.le_refl _) _).alloc (by simp) _)
      case d1 => exact raw_cells r _ _ rfl rfl _ (by simp)
      case d2 => exact tok_one _
      case d3 => unfold maxLen; omega
      case d4 => omega
      case d5 => simp; omega
      intro v5 w5 hown' hgrow _
      have HK5 : Hid (OwnT w5 w.heap.size v5 (G ++ [rawTok r])) := Lib.hid (by unfold OwnT; rw [cellsT_snoc, List.length_append]; exact hown')
      have HL5 : Hid (Below w.heap.size w w5) := Lib.hid (((HB.out.alloc hsz _).alloc (by simp; omega) _).grown hgrow (by simp; omega) (fun k hk => (own_block HO.out k hk).1))
      clear hown' hgrow x0 x1 x2 x3
      go_wp2_with fail
      go_roundw
      case rel => exact ⟨k + 1, by omega, by omega, by go_num, by rw [HS.out]; exact HK5.out, HL5.out⟩
      case measure => simp [intOf]; omega
    · clear hbel
      have HSM := Lib.hid (raw_smallT R k)
      have hml := raw_len R k
      have hr2 := HO.out.read
      generalize rawL R k = T at *
      obtain ⟨A1, c1, rfl, _⟩ := HO.out.read
      replace HO := Lib.hid hr2
      have hT : T.length ≤ 10000 := by omega
      clear hml HA hr2
      have hql := exprV_len T i
      have HSS := Lib.hid (same_self (exprV T i).nodes)
      obtain ⟨q, hq⟩ : ∃ q, exprV T i = q := ⟨_, rfl⟩
      have HQ := Lib.hid hq
      rw [hq] at hql HSS
      clear hq
      have e1 : (q.to == q.to) = true := by simp
      have e2 : (q.err == q.err) = true := by simp
      have e3 : (q.pl == q.pl) = true := by simp
      by_cases hlt : k < n
      · have hk8 : ¬ (k : Int) < 80 := by omega
        have hki : (k : Int) < (n : Int) := by omega
        clear hgo
        go_wp2_with fail
        refine (parse_any _ T i _ HO.out (HT.out.on HB.out) hT HSM.out).mono ?_
        rw [HQ.out]
        rintro e w3 ⟨v3, rfl, ho, hb⟩
        have hr3 := ho.read
        obtain ⟨A3, c3, rfl, _⟩ := ho.read
        have HO3 := Lib.hid hr3
        replace HO := Lib.hid (HO.out.on hb)
        replace HB := Lib.hid (below_then HB.out hb)
        clear ho hb hr3
        go_wp2_with fail
        refine (rparse_any _ T i _ HO.out hT HSM.out).mono ?_
        rw [HQ.out]
        rintro e w4 ⟨v4, rfl, ho, hb⟩
        have hr4 := ho.read
        obtain ⟨A4, c4, rfl, _⟩ := ho.read
        have HO4 := Lib.hid hr4
        replace HO3 := Lib.hid (HO3.out.on hb)
        replace HB := Lib.hid (below_then HB.out hb)
        clear ho hb hr4
        go_wp2_with fail
        refine (rsame_any true _ _ q.nodes q.nodes _ HO3.out HO4.out (by omega)).mono ?_
        rw [HSS.out]
        rintro e w5 ⟨rfl, hb⟩
        replace HB := Lib.hid (below_then HB.out hb)
        clear hb
        go_wp2_with fail
        refine (fixed_any _ (HT.out.on HB.out)).mono ?_
        rintro e w6 ⟨rfl, hb⟩
        go_wp2_with fail
        go_ret
        exact ⟨rfl, below_then HB.out hb⟩
      · have hki : ¬ (k : Int) < (n : Int) := by omega
        clear hgo
        go_wp2_with fail
        refine (parse_any _ T i _ HO.out (HT.out.on HB.out) hT HSM.out).mono ?_
        rw [HQ.out]
        rintro e w3 ⟨v3, rfl, ho, hb⟩
        have hr3 := ho.read
        obtain ⟨A3, c3, rfl, _⟩ := ho.read
        have HO3 := Lib.hid hr3
        replace HO := Lib.hid (HO.out.on hb)
        replace HB := Lib.hid (below_then HB.out hb)
        clear ho hb hr3
        go_wp2_with fail
        refine (rparse_any _ T i _ HO.out hT HSM.out).mono ?_
        rw [HQ.out]
        rintro e w4 ⟨v4, rfl, ho, hb⟩
        have hr4 := ho.read
        obtain ⟨A4, c4, rfl, _⟩ := ho.read
        have HO4 := Lib.hid hr4
        replace HO3 := Lib.hid (HO3.out.on hb)
        replace HB := Lib.hid (below_then HB.out hb)
        clear ho hb hr4
        go_wp2_with fail
        refine (rsame_any true _ _ q.nodes q.nodes _ HO3.out HO4.out (by omega)).mono ?_
        rw [HSS.out]
        rintro e w5 ⟨rfl, hb⟩
        replace HB := Lib.hid (below_then HB.out hb)
        clear hb
        go_wp2_with fail
        refine (fixed_any _ (HT.out.on HB.out)).mono ?_
        rintro e w6 ⟨rfl, hb⟩
        go_wp2_with fail
        go_ret
        exact ⟨rfl, below_then HB.out hb⟩
end Go.Proofs.YtcmbcbdijmknnaaDoor

/-
  DERIVED. Layer 3: a slice of tokens that is handed in, as the walk asks it.
-/
namespace Go.Proofs.YtcmbcbdijmknnaaDoor
open Go.ChangeShapes Go.WideShapes Go.ChangeAt Go.RowKit
open Go.ChangeMaps (open_string shut_string)

set_option maxRecDepth 100000
theorem cells34 : Tryd.prog.cellsOf 34 = 4 := by kernel_rfl
/-- What a struct of four cells, of a token's kinds, holds. -/
theorem tok_fields {H : Type} {enc : TypeId × Value → H} {W : World} {base fuel : Nat} {sp : Nat → Bool} {held : Bool} {cs : List Value} {x : DataW H × List MemPlace} (h : DataW.trod enc Tryd.prog W base sp held fuel 34 cs = some x) :
    ∃ r : Raw, cs = [.int .i64 r.kind, .string r.text, .int .i64 r.n, .int .i64 r.pl] := by
  obtain ⟨xs, n, _, _, hlen, hxl, hf⟩ := DataW.trod_struct Tryd.underlying34 h
  rw [cells34] at hlen
  match cs, hlen with
  | [c0, c1, c2, c3], _ =>
    match xs, hxl with
    | [y0, y1, y2, y3], _ =>
      have g0 : DataW.trod enc Tryd.prog W base sp held n 3 (([c0, c1, c2, c3].drop 0).take (Tryd.prog.cellsOf 3)) = some y0 := hf 0 _ rfl
      rw [cells3] at g0
      have g1 : DataW.trod enc Tryd.prog W base sp held n 9 (([c0, c1, c2, c3].drop 1).take (Tryd.prog.cellsOf 9)) = some y1 := hf 1 _ rfl
      rw [cells9] at g1
      have g2 : DataW.trod enc Tryd.prog W base sp held n 3 (([c0, c1, c2, c3].drop 2).take (Tryd.prog.cellsOf 3)) = some y2 := hf 2 _ rfl
      rw [cells3] at g2
      have g3 : DataW.trod enc Tryd.prog W base sp held n 3 (([c0, c1, c2, c3].drop 3).take (Tryd.prog.cellsOf 3)) = some y3 := hf 3 _ rfl
      rw [cells3] at g3
      obtain ⟨a, e0, _, _⟩ := DataW.trod_int Tryd.underlying3 (show DataW.trod enc Tryd.prog W base sp held n 3 [c0] = some y0 from g0)
      obtain ⟨t, e1, _, _⟩ := DataW.trod_string Tryd.underlying9 (show DataW.trod enc Tryd.prog W base sp held n 9 [c1] = some y1 from g1)
      obtain ⟨b, e2, _, _⟩ := DataW.trod_int Tryd.underlying3 (show DataW.trod enc Tryd.prog W base sp held n 3 [c2] = some y2 from g2)
      obtain ⟨c, e3, _, _⟩ := DataW.trod_int Tryd.underlying3 (show DataW.trod enc Tryd.prog W base sp held n 3 [c3] = some y3 from g3)
      simp only [List.cons.injEq, and_true] at e0 e1 e2 e3
      subst e0; subst e1; subst e2; subst e3
      exact ⟨⟨a, t, b, c⟩, rfl⟩
/-- A slice of tokens that is handed in, as the walk asks it. -/
theorem arg_tokens {H : Type} {enc : TypeId × Value → H} {W : World} {sp : Nat → Bool} {held : Bool} {A : Option Addr} {len cap fuel : Nat} {x : DataW H × List MemPlace} (h : DataW.trod enc Tryd.prog W 0 sp held fuel 22 [.slice A len cap] = some x) : ∃ R, ArgT W A len R := by
  rcases Go.Deep.open_slice Tryd.underlying22 h with ⟨hcs, _⟩ | ⟨a, len', cap', m, n, D, Pl, hcs, _, hl, _, hm, _, hi⟩
  · simp only [List.cons.injEq, and_true, Value.slice.injEq] at hcs
    obtain ⟨rfl, rfl, rfl⟩ := hcs
    exact ⟨fun _ => ⟨0, ByteArray.empty, 0, 0⟩, fun i hi => absurd hi (by omega)⟩
  · simp only [List.cons.injEq, and_true, Value.slice.injEq] at hcs
    obtain ⟨rfl, rfl, rfl⟩ := hcs
    have hml : len ≤ m := by rw [hm]; split <;> omega
    have key : ∀ i, i < len → ∃ (r : Raw) (b off : Nat), a = ⟨b, off, none⟩ ∧ b < W.heap.size ∧ W.cell? ⟨b, off + i * 4, none⟩ = some (.int .i64 r.kind) ∧ W.cell? ⟨b, off + i * 4 + 1, none⟩ = some (.string r.text) ∧
        W.cell? ⟨b, off + i * 4 + 2, none⟩ = some (.int .i64 r.n) ∧ W.cell? ⟨b, off + i * 4 + 3, none⟩ = some (.int .i64 r.pl) := by
      intro i hil
      obtain ⟨cs', hc, ht⟩ := hi i (by omega)
      rw [cells34] at hc
      obtain ⟨r, rfl⟩ := tok_fields ht
      obtain ⟨_, _, hat⟩ := World.cells?_some hc
      have h0 := hat 0 (by omega)
      have h1 := hat 1 (by omega)
      have h2 := hat 2 (by omega)
      have h3 := hat 3 (by omega)
      obtain ⟨b, off, spot⟩ := a
      have hspot : spot = none := by
        obtain ⟨cs0, hc0, ht0⟩ := hi 0 (by omega)
        rw [cells34] at hc0
        obtain ⟨r0, rfl⟩ := tok_fields ht0
        obtain ⟨_, _, hat0⟩ := World.cells?_some hc0
        simpa [Addr.add] using World.cell?_spot (hat0 0 (by omega))
      subst hspot
      rw [Go.WideShapes.add_plain, Go.WideShapes.add_plain] at h0 h1 h2 h3
      exact ⟨r, b, off, rfl, by simpa using World.block_lt_of_cell? W _ h0, h0, h1, h2, h3⟩
    refine ⟨fun i => if h : i < len then (key i h).choose else ⟨0, ByteArray.empty, 0, 0⟩, fun i hil => ?_⟩
    simp only [hil, dif_pos]
    obtain ⟨b, off, e, hb, h0, h1, h2, h3⟩ := (key i hil).choose_spec
    exact ⟨b, off, congrArg some e, hb, h0, h1, h2, h3⟩
end Go.Proofs.YtcmbcbdijmknnaaDoor

namespace Go.Proofs.YtcmbcbdijmknnaaDoor.exprTokens
open Go.ChangeShapes Go.WideShapes Go.ChangeAt Go.RowKit
open Go.ChangeMaps (open_string shut_string)

set_option maxRecDepth 100000 in
theorem contract (H : Type) (enc : TypeId × Value → H) (W : World) (base : Nat) (args : Array Value) (ds gs : List (DataW H)) (before : List MemPlace)
    (hval : ∀ (j : Nat) t v, Tryd.f4.params[j]? = some t → args[j]? = some v → Value.okWide Tryd.prog W .any base t v)
    (hW : DataW.Whole enc Tryd.prog Tryd.f4.params.toList Rows.exprTokensSpec.vars false W args.toList ds gs before) (hL : laidMetH Tryd.prog Rows.exprTokensRow.laid W) :
    Calls Tryd.prog 4 args W fun e W' => ∃ v, e = .returned v ∧ Rows.exprTokensSpec.post enc Tryd.prog Tryd.f4 false true false false W args v W' := by
  have hW' := hW
  obtain ⟨p, q, hA0, hV, rfl, hfz, hnd⟩ := hW
  have hA : DataW.TrodAll enc Tryd.prog W 0 (fun _ => true) true Tryd.f4.params.toList args.toList ds p := hA0
  rw [Tryd.params4] at hA hval
  obtain ⟨v0, vs0, d0, ds0, p0, q0, hargs, rfl, rfl, h0, r0⟩ := trodAll_cons hA
  obtain ⟨v1, vs1, d1, ds1, p1, q1, rfl, rfl, rfl, h1, r1⟩ := trodAll_cons r0
  obtain ⟨rfl, rfl, rfl⟩ := trodAll_nil r1
  obtain rfl : args = #[v0, v1] := by cases args; simp_all
  obtain ⟨rfl, rfl⟩ := trodVars_none hV
  obtain ⟨A0, len0, cap0, rfl⟩ := okWide_slice Tryd.underlying22 (hval 0 22 v0 rfl rfl)
  have h0k := h0
  obtain ⟨fuel0, hf0⟩ := h0
  obtain ⟨R0, hR0⟩ := arg_tokens (by simpa [Value.cells] using hf0)
  have hlt0 : ∀ x ∈ p0, x.block < W.heap.size := fun x hx => by simpa using hW'.lt x (by simp [hx])
  obtain ⟨a1, rfl, rfl, rfl, w1⟩ := open_int Tryd.underlying3 (hval 1 3 v1 rfl rfl) h1
  clear hA0
  have ht : Tabs W := table hL
  refine (tokensLaw_any A0 len0 cap0 R0 a1 W hR0 ht).mono fun e W' ⟨he, bel⟩ => ?_
  subst he
  exact ⟨_, rfl, _, _, _, [], _, [], hW', trodAll_mk1 (shut_bool Tryd.underlying4 _), (trodAll_cons_mk (Below.trod laidOut (by kernel_rfl) (of_decide_eq_true (by kernel_rfl)) h0k bel hlt0) (trodAll_cons_mk (shut_int Tryd.underlying3 w1) trodAll_mk0)), rfl, bel.frame _, fun h => by cases h⟩

theorem laid_met (os : Os) : laidMet Tryd.prog Rows.exprTokensRow.laid ((laidWorld os).forCall (fun _ _ => 0) ⟨#[], #[.slice none 0 0, .int .i64 0], []⟩).memory :=
  laidMet_of_run3 8 (by kernel_rfl) (by kernel_rfl) (by kernel_rfl)
theorem reads (os : Os) {H : Type} (enc : TypeId × Value → H) : ∃ places, DataW.whole enc Tryd.prog ((laidWorld os).forCall (fun _ _ => 0) ⟨#[], #[.slice none 0 0, .int .i64 0], []⟩).memory Tryd.f4.params.toList Rows.exprTokensSpec.vars false #[Value.slice none 0 0, Value.int .i64 0].toList 8 = some ([.nil, .lit (.int .i64 0)], [], places) :=
  ⟨[], by kernel_rfl⟩

set_option maxRecDepth 100000 in
theorem lifted (os : Os) (started : os.Started) (H : Type) (enc : TypeId × Value → H) (F : Stop.Interp) :
    ReturnsInHanded {} Tryd.checked os 4 .any ((OpenSpec.ofChange Rows.exprTokensSpec).preRow enc Tryd.prog Tryd.f4 Rows.exprTokensRow.domain false Rows.exprTokensRow.laid) (((OpenSpec.ofChange Rows.exprTokensSpec).at F).post enc Tryd.prog Tryd.f4 false true false false) := by
  obtain ⟨places, hx⟩ := reads os enc
  refine returnsInHanded_of_row (C := Tryd.checked) (s := OpenSpec.ofChange Rows.exprTokensSpec) own started (by kernel_rfl) Tryd.func4
    (witness_row_at (enc := enc) (C := Tryd.checked) false (laidWorld os) #[.slice none 0 0, .int .i64 0] rfl (by kernel_rfl) (by kernel_rfl) (by kernel_rfl)
      (OpenSpec.preRow_of_cond 8 hx (by kernel_rfl) (fun k hk => by cases hk) (by kernel_rfl) (laid_met os))) ?_
  intro W base args ds gs before hval hW _ _ _ hL _ _
  exact contract H enc W base args ds gs before hval hW hL

theorem said : Rows.ExprTokensSaid :=
  OpenClaim.holds_of_cond 4 Tryd.f4 rfl rfl rfl rfl rfl rfl rfl ⟨rfl, rfl, rfl, rfl, rfl⟩ rfl rfl rfl rfl rfl (by kernel_rfl) Tryd.func4 (by kernel_rfl)
    (of_decide_eq_true (by kernel_rfl)) (by unfold Func.isWrapper; first | (rw [if_pos (by decide +kernel)]; kernel_rfl) | (rw [if_neg (by decide +kernel)]; exact ⟨rfl, rfl⟩))
    (fun os started H enc _ F => by rw [OpenClaim.pre_eq_preRow]; exact lifted os started H enc F)

theorem plain (f : FuncId) (fn : Func) (hf : Tryd.pinned.checked.prog.funcNamed Rows.exprTokensRow.func = some f) (hfn : Tryd.pinned.checked.prog.funcs[f]? = some fn) :
    false = Tryd.pinned.checked.prog.looks [] ∧ ∀ (j : Nat) t, fn.params[j]? = some t → Tryd.pinned.checked.prog.wantsStandIn t = false := by
  obtain rfl : f = 4 := Option.some.inj ((show Tryd.prog.funcNamed Rows.exprTokensRow.func = some 4 by kernel_rfl).symm.trans hf) |>.symm
  obtain rfl : fn = Tryd.f4 := (Option.some.inj (Tryd.func4.symm.trans hfn)).symm
  refine ⟨by kernel_rfl, fun j t ht => ?_⟩
  rw [Tryd.params4] at ht
  have hm : t = 22 ∨ t = 3 := by have h0 := Array.mem_of_getElem? ht; simp at h0; omega
  rcases hm with rfl | rfl
  · exact (show Tryd.prog.wantsStandIn 22 = false by kernel_rfl)
  · exact (show Tryd.prog.wantsStandIn 3 = false by kernel_rfl)

/-- THE CARD -/
theorem card : Rows.ExprTokensCardSaid :=
  Claim7.holds_tied_plain_at .later [] _ _ _ _ said (fun _ h => by cases h) (by kernel_rfl) (fun _ h => by cases h) exprTokens_row_tie rfl ⟨rfl, rfl⟩ (by kernel_rfl) rfl plain (by kernel_rfl)
end Go.Proofs.YtcmbcbdijmknnaaDoor.exprTokens
namespace Go.Proofs.YtcmbcbdijmknnaaDoor
/-- THE STATEMENT -/
theorem exprTokens_holds : Rows.ExprTokensCardSaid := exprTokens.card
#print axioms exprTokens_holds
end Go.Proofs.YtcmbcbdijmknnaaDoor
