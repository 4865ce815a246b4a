/-
  DERIVED. Texts of the walk, packed: StMem, SRd, SFail.
-/
import Derived.Test.YtpeohfgadnfnpaaGreatDoorQ19
import Derived.Test.YtpeohfgadnfnpaaGreatDoorQ11
import Derived.Test.YtpeohfgadnfnpaaGreatDoorQ17
import Derived.Test.YtpeohfgadnfnpaaGreatDoorQ18
import Derived.Lib.Builder
import Derived.Deep.RegionHeld3
/-
  DERIVED. Layer 4: slices of statements that are read; how deep statements are, step by step.
-/
namespace Go.Proofs.YtpeohfgadnfnpaaGreatDoor
open Go.RowKit

/-- A statement's nine cells. -/
structure At9 (w : World) (g o : Nat) (t : Stm) (AE : Option Addr) (nE cE : Nat) (AF : Option Addr) (nF cF : Nat) : Prop where
  lt : g < w.heap.size
  c0 : w.cell? ⟨g, o, none⟩ = some (.int .i64 t.kind)
  c1 : w.cell? ⟨g, o + 1, none⟩ = some (.string ⟨t.reg.toArray⟩)
  c2 : w.cell? ⟨g, o + 2, none⟩ = some (.string ⟨t.name.toArray⟩)
  c3 : w.cell? ⟨g, o + 3, none⟩ = some (.slice AE nE cE)
  c4 : w.cell? ⟨g, o + 4, none⟩ = some (.slice AF nF cF)
  c5 : w.cell? ⟨g, o + 5, none⟩ = some (.int .i64 t.n)
  c6 : w.cell? ⟨g, o + 6, none⟩ = some (.int .i64 t.body)
  c7 : w.cell? ⟨g, o + 7, none⟩ = some (.int .i64 t.els)
  c8 : w.cell? ⟨g, o + 8, none⟩ = some (.int .i64 t.pl)
  re : ReadN w (.slice AE nE cE) t.e
  rf : ReadN w (.slice AF nF cF) t.f
theorem At9.on {w w' : World} {g o : Nat} {t : Stm} {AE : Option Addr} {nE cE : Nat} {AF : Option Addr} {nF cF : Nat} (h : At9 w g o t AE nE cE AF nF cF) (hb : Below w.heap.size w w') : At9 w' g o t AE nE cE AF nF cF := by
  obtain ⟨lt, c0, c1, c2, c3, c4, c5, c6, c7, c8, re, rf⟩ := h
  have e : ∀ q, w'.cell? ⟨g, q, none⟩ = w.cell? ⟨g, q, none⟩ := fun q => hb.cell (p := ⟨g, q, none⟩) lt
  exact ⟨Nat.lt_of_lt_of_le lt hb.size, by rw [e, c0], by rw [e, c1], by rw [e, c2], by rw [e, c3], by rw [e, c4], by rw [e, c5], by rw [e, c6], by rw [e, c7], by rw [e, c8], re.on hb, rf.on hb⟩
/-- A slice that reads as these statements, and lies in old memory. -/
def ReadSt (w : World) (v : Value) (L : List Stm) : Prop :=
  ∃ A c, v = .slice A L.length c ∧ L.length ≤ c ∧ c ≤ maxLen ∧ (∀ i t, L[i]? = some t → ∃ g o AE nE cE AF nF cF, A = some ⟨g, o, none⟩ ∧ At9 w g (o + i * 9) t AE nE cE AF nF cF)
theorem ReadSt.on {w w' : World} {v : Value} {L : List Stm} (h : ReadSt w v L) (hb : Below w.heap.size w w') : ReadSt w' v L := by
  obtain ⟨A, c, hv, hc, hm, hr⟩ := h
  refine ⟨A, c, hv, hc, hm, fun i t hi => ?_⟩
  obtain ⟨g, o, AE, nE, cE, AF, nF, cF, hA, h9⟩ := hr i t hi
  exact ⟨g, o, AE, nE, cE, AF, nF, cF, hA, h9.on hb⟩
theorem ReadSt.part {w : World} {g o n c k j : Nat} {L : List Stm} (h : ReadSt w (.slice (some ⟨g, o, none⟩) n c) L) (hk : k ≤ j) (ht : j ≤ n) : ReadSt w (.slice (some ⟨g, o + k * 9, none⟩) (j - k) (c - k)) ((L.take j).drop k) := by
  obtain ⟨A, c', hv, hc, hm, hr⟩ := h
  simp only [Value.slice.injEq] at hv
  obtain ⟨rfl, rfl, rfl⟩ := hv
  refine ⟨_, _, by rw [List.length_drop, List.length_take, Nat.min_eq_left ht], by rw [List.length_drop, List.length_take, Nat.min_eq_left ht]; omega, by omega, fun i t hi => ?_⟩
  rw [List.getElem?_drop, List.getElem?_take] at hi
  split at hi
  · obtain ⟨g', o', AE, nE, cE, AF, nF, cF, hA, h9⟩ := hr (k + i) t hi
    simp only [Option.some.injEq, Addr.mk.injEq] at hA
    obtain ⟨rfl, rfl, _⟩ := hA
    rw [show o + (k + i) * 9 = o + k * 9 + i * 9 from by omega] at h9
    exact ⟨g, o + k * 9, AE, nE, cE, AF, nF, cF, rfl, h9⟩
  · cases hi
theorem readSt_nil (w : World) : ReadSt w (.slice none 0 0) [] := ⟨none, 0, rfl, Nat.le_refl _, Nat.zero_le _, fun i t h => by simp at h⟩

/-! ### How deep, step by step. -/
def inS (x : Stm) (l : Nat) : Nat := if x.kind = 12 then l + 1 else l
def stepOK (x : Stm) (l n : Nat) : Prop := headOK x n ∧ ¬ (x.kind = 13 ∧ l = 0)
instance (x : Stm) (l n : Nat) : Decidable (stepOK x l n) := inferInstanceAs (Decidable (_ ∧ ¬ _))
theorem treeS_cons (x : Stm) (r : List Stm) : treeS (x :: r) = if headOK x r.length then
      match treeS (bodyL x r), treeS (elseL x r), treeS (restL x r) with
      | some b, some e, some t => some (.cons x b e t)
      | _, _, _ => none
    else none := by
  show treeF (r.length + 1) (x :: r) = _
  unfold treeF
  split
  · rename_i h
    obtain ⟨h1, h2, h3⟩ := parts_len h
    have hh := h
    obtain ⟨g1, g2, _⟩ := hh
    rw [treeF_eq (by omega), treeF_eq (by omega), treeF_eq (by omega)]
    cases treeS (bodyL x r) <;> cases treeS (elseL x r) <;> cases treeS (restL x r) <;> rfl
  · rfl
theorem deepS_nil (l : Nat) : deepS l [] = some 0 := rfl
theorem deepS_bad {x : Stm} {r : List Stm} {l : Nat} (h : ¬ stepOK x l r.length) : deepS l (x :: r) = none := by
  unfold deepS
  rw [treeS_cons]
  by_cases hh : headOK x r.length
  · rw [if_pos hh]
    have hk : x.kind = 13 ∧ l = 0 := by
      by_cases hq : x.kind = 13 ∧ l = 0
      · exact hq
      · exact absurd ⟨hh, hq⟩ h
    cases treeS (bodyL x r) with
    | none => rfl
    | some b => cases treeS (elseL x r) with
      | none => rfl
      | some e => cases treeS (restL x r) with
        | none => rfl
        | some t => simp [Bk.brk, hk.1, hk.2]
  · rw [if_neg hh]
def comb3 (k : Int) : Option Nat → Option Nat → Option Nat → Option Nat
  | some a, some b, some c => some (max (if blkK k then max (a + 1) (b + 1) else 0) c)
  | _, _, _ => none
theorem comb_n1 (k : Int) (y z : Option Nat) : comb3 k none y z = none := by cases y <;> cases z <;> rfl
theorem comb_n2 (k : Int) (y z : Option Nat) : comb3 k y none z = none := by cases y <;> cases z <;> rfl
theorem comb_n3 (k : Int) (y z : Option Nat) : comb3 k y z none = none := by cases y <;> cases z <;> rfl
theorem comb_flat {k : Int} (h : ¬ blkK k) (z : Option Nat) : comb3 k (some 0) (some 0) z = z := by
  cases z with
  | none => rfl
  | some c => show some (max (if blkK k then max (0 + 1) (0 + 1) else 0) c) = some c; rw [if_neg h]; simp
theorem deepS_step {x : Stm} {r : List Stm} {l : Nat} (h : stepOK x l r.length) : deepS l (x :: r) = comb3 x.kind (deepS (inS x l) (bodyL x r)) (deepS (inS x l) (elseL x r)) (deepS l (restL x r)) := by
  unfold deepS
  rw [treeS_cons, if_pos h.1]
  cases treeS (bodyL x r) with
  | none => rw [comb_n1]
  | some b => cases treeS (elseL x r) with
    | none => rw [comb_n2]
    | some e => cases treeS (restL x r) with
      | none => rw [comb_n3]
      | some t =>
        have hk : (!decide (x.kind = 13) || decide (0 < l)) = true := by
          have := h.2
          by_cases h13 : x.kind = 13
          · simp [h13]; omega
          · simp [h13]
        simp only [Bk.brk, hk, Bool.true_and]
        unfold inS
        cases Bk.brk (if x.kind = 12 then l + 1 else l) b <;> cases Bk.brk (if x.kind = 12 then l + 1 else l) e <;> cases Bk.brk l t <;> rfl
def deepI (l : Nat) (L : List Stm) : Int := match deepS l L with
  | some d => d
  | none => -1
end Go.Proofs.YtpeohfgadnfnpaaGreatDoor
/-
  DERIVED. Layer 4: the reader of stmt.Parse as it stands in memory: its seven cells, the row of what it keeps, the expressions' rows.
-/
namespace Go.Proofs.YtpeohfgadnfnpaaGreatDoor
open Go.RowKit

/-- A statement, with its two slices as they are held. -/
structure Sv where
  s : Stm
  vE : Value
  vF : Value
def svCells (x : Sv) : List Value := [.int .i64 x.s.kind, .string ⟨x.s.reg.toArray⟩, .string ⟨x.s.name.toArray⟩, x.vE, x.vF, .int .i64 x.s.n, .int .i64 x.s.body, .int .i64 x.s.els, .int .i64 x.s.pl]
def cellsV (K : List Sv) : List Value := K.flatMap svCells
theorem cellsV_len (K : List Sv) : (cellsV K).length = K.length * 9 := by
  induction K with
  | nil => rfl
  | cons x K ih => unfold cellsV at *; rw [List.flatMap_cons, List.length_append, ih]; simp [svCells]; omega
theorem cellsV_app (K M : List Sv) : cellsV (K ++ M) = cellsV K ++ cellsV M := by unfold cellsV; rw [List.flatMap_append]
/-- Nothing that was there has turned but the blocks that P says. -/
structure KeepP (P : Nat → Prop) (w w' : World) : Prop where
  os : w'.os = w.os
  tape : w'.tape = w.tape
  output : w'.output = w.output
  size : w.heap.size ≤ w'.heap.size
  block : ∀ k, k < w.heap.size → ¬ P k → w'.heap[k]? = w.heap[k]?
theorem KeepP.refl (P : Nat → Prop) (w : World) : KeepP P w w := ⟨rfl, rfl, rfl, Nat.le_refl _, fun _ _ _ => rfl⟩
theorem KeepP.trans {P Q R : Nat → Prop} {w w1 w2 : World} (h : KeepP P w w1) (k : KeepP Q w1 w2) (hP : ∀ k, k < w.heap.size → P k → R k) (hQ : ∀ k, k < w.heap.size → Q k → R k) : KeepP R w w2 :=
  ⟨k.os.trans h.os, k.tape.trans h.tape, k.output.trans h.output, Nat.le_trans h.size k.size, fun i hi hg => (k.block i (Nat.lt_of_lt_of_le hi h.size) (fun q => hg (hQ i hi q))).trans (h.block i hi (fun p => hg (hP i hi p)))⟩
theorem KeepP.of {P : Nat → Prop} {w w' : World} (h : Below w.heap.size w w') : KeepP P w w' := ⟨h.os, h.tape, h.output, h.size, fun k hk _ => h.block k hk⟩
theorem KeepP.mono {P Q : Nat → Prop} {w w' : World} (h : KeepP P w w') (hP : ∀ k, k < w.heap.size → P k → Q k) : KeepP Q w w' := ⟨h.os, h.tape, h.output, h.size, fun k hk hq => h.block k hk (fun p => hq (hP k hk p))⟩
theorem KeepP.below {P : Nat → Prop} {w w' : World} (h : KeepP P w w') {B : Nat} (hB : ∀ k, k < B → ¬ P k) (hw : B ≤ w.heap.size) : Below B w w' :=
  ⟨h.os, h.tape, h.output, h.size, fun k hk => h.block k (by omega) (hB k hk)⟩
theorem KeepP.set {g j : Nat} {w : World} {v : Value} : KeepP (fun k => k = g) w (w.setCell ⟨g, j, none⟩ v) :=
  ⟨rfl, rfl, rfl, by simp, fun k _ hg => Below.heap_setCell _ _ _ _ hg⟩
theorem KeepP.keeps {g : Nat} {w w' : World} (h : Keeps g w w') : KeepP (fun k => k = g) w w' := ⟨h.os, h.tape, h.output, h.size, fun k hk hg => h.block k hk hg⟩
/-- Nodes that lie in a row of nodes. -/
structure ReadE (B : Nat) (w : World) (v : Value) (l : List Nod) : Prop where
  rd : ReadN w v l
  blk : ∀ q, v.ownBlock = some q → B ≤ q ∧ ∃ cs, w.heap[q]? = some (.cells cs 33 (0, 0))
theorem ReadE.keep {B : Nat} {P : Nat → Prop} {w w' : World} {v : Value} {l : List Nod} (h : ReadE B w v l) (hk : KeepP P w w') (hP : ∀ q cs fr, w.heap[q]? = some (.cells cs 33 fr) → ¬ P q)   : ReadE B w' v l := by
  obtain ⟨⟨A, c, hv, h1, h2, h3⟩, h4⟩ := h
  subst hv
  have key : ∀ q, (Value.slice A l.length c).ownBlock = some q → w'.heap[q]? = w.heap[q]? ∧ q < w'.heap.size := by
    intro q hq
    obtain ⟨_, cs, hh⟩ := h4 q hq
    have hlt := (Array.getElem?_eq_some_iff.1 hh).1
    exact ⟨hk.block q hlt (hP q cs _ hh), Nat.lt_of_lt_of_le hlt hk.size⟩
  refine ⟨⟨A, c, rfl, h1, h2, fun i t hi => ?_⟩, fun q hq => ?_⟩
  · obtain ⟨g, o, rfl, hg, c0, c1, c2, c3⟩ := h3 i t hi
    obtain ⟨e1, e2⟩ := key g rfl
    have e : ∀ j, w'.cell? ⟨g, j, none⟩ = w.cell? ⟨g, j, none⟩ := fun j => World.cell?_of_block e1
    exact ⟨g, o, rfl, e2, by rw [e, c0], by rw [e, c1], by rw [e, c2], by rw [e, c3]⟩
  · obtain ⟨hB, cs, hh⟩ := h4 q hq
    exact ⟨hB, cs, by rw [(key q hq).1]; exact hh⟩
theorem ReadE.on {B : Nat} {w w' : World} {v : Value} {l : List Nod} (h : ReadE B w v l) (hb : Below w.heap.size w w') : ReadE B w' v l := h.keep (P := fun _ => False) (KeepP.of hb) (fun _ _ _ _ => id)
theorem readE_nil (B : Nat) (w : World) : ReadE B w (.slice none 0 0) [] := ⟨⟨none, 0, rfl, Nat.le_refl _, Nat.zero_le _, fun i t h => by simp at h⟩, fun q h => by simp [Value.ownBlock] at h⟩
theorem OwnN.readE {w : World} {B B' : Nat} {v : Value} {l : List Nod} (h : OwnN w B v l) (hBB : B' ≤ B) : ReadE B' w v l := by
  refine ⟨h.read, fun q hq => ?_⟩
  rcases h.2 with ⟨rfl, _⟩ | ⟨g, cap, cur, rfl, hB, hh, _⟩
  · simp [Value.ownBlock] at hq
  · simp [Value.ownBlock] at hq
    subst hq
    exact ⟨Nat.le_trans hBB hB, _, hh⟩
/-- What the reader reads, and the tables. -/
structure Src (L : List Tok) (W0 : World) (lv : Value) : Prop where
  toks : ReadT W0 lv L
  tabs : Tabs W0
  len : L.length ≤ 10000
  small : SmallT L
/-- The reader. -/
structure St4 (L : List Tok) (W0 : World) (g : Nat) (lv : Value) (i d l m : Nat) (pl : Int) (K : List Sv) (kv : Value) (w : World) : Prop where
  low : Below W0.heap.size W0 w
  gB : W0.heap.size ≤ g
  blk : w.heap[g]? = some (.cells #[lv, .int .i64 i, .int .i64 d, .int .i64 l, .int .i64 m, kv, .int .i64 pl] 55 (0, 0))
  row : w.ownsRow W0.heap.size 31 9 kv K.length (cellsV K)
  rds : ∀ x ∈ K, ReadE W0.heap.size w x.vE x.s.e ∧ ReadE W0.heap.size w x.vF x.s.f
  len : K.length = min m 40
  il : i ≤ L.length ∨ m = 0
  mi : m ≤ i
  dd : d ≤ 13
  ll : l ≤ d
/-- The blocks that the reader may turn: its own, and that of what it keeps. -/
def Mine (g : Nat) (kv : Value) (k : Nat) : Prop := k = g ∨ kv.ownBlock = some k
theorem row_type {w : World} {B : Nat} {v : Value} {n : Nat} {xs : List Value} (h : w.ownsRow B 31 9 v n xs) : ∀ q, v.ownBlock = some q → B ≤ q ∧ ∃ cs, w.heap[q]? = some (.cells cs 31 (0, 0)) := by
  intro q hq
  rcases h.2 with ⟨rfl, _⟩ | ⟨g', cap, cur, rfl, hB, hgg, _⟩
  · simp [Value.ownBlock] at hq
  · simp [Value.ownBlock] at hq
    subst hq
    exact ⟨hB, cur, hgg⟩
theorem row_keep {P : Nat → Prop} {w w' : World} {B : Nat} {v : Value} {n : Nat} {xs : List Value} (h : w.ownsRow B 31 9 v n xs) (hk : KeepP P w w') (hP : ∀ q, v.ownBlock = some q → ¬ P q) : w'.ownsRow B 31 9 v n xs := by
  refine ⟨h.1, ?_⟩
  rcases h.2 with h | ⟨g', cap, cur, rfl, hB, hgg, r⟩
  · exact .inl h
  · exact .inr ⟨g', cap, cur, rfl, hB, by rw [hk.block g' (Array.getElem?_eq_some_iff.1 hgg).1 (hP g' rfl)]; exact hgg, r⟩
section
variable {L : List Tok} {W0 : World} {g : Nat} {lv : Value} {i d l m : Nat} {pl : Int} {K : List Sv} {kv : Value} {w : World}
theorem St4.lt (h : St4 L W0 g lv i d l m pl K kv w) : g < w.heap.size := (Array.getElem?_eq_some_iff.1 h.blk).1
theorem St4.own_ne (h : St4 L W0 g lv i d l m pl K kv w) : ∀ q, kv.ownBlock = some q → q ≠ g ∧ q < w.heap.size ∧ W0.heap.size ≤ q := by
  intro q hq
  obtain ⟨hB, cs, hh⟩ := row_type h.row q hq
  refine ⟨?_, (Array.getElem?_eq_some_iff.1 hh).1, hB⟩
  rintro rfl
  rw [h.blk] at hh
  simp at hh
theorem St4.mine_low (h : St4 L W0 g lv i d l m pl K kv w) : ∀ k, k < W0.heap.size → ¬ Mine g kv k := by
  rintro k hk (rfl | hq)
  · have := h.gB; omega
  · have := (h.own_ne k hq).2.2; omega
theorem St4.mine_nodes (h : St4 L W0 g lv i d l m pl K kv w) : ∀ q cs fr, w.heap[q]? = some (.cells cs 33 fr) → ¬ Mine g kv q := by
  rintro q cs fr hh (rfl | hq)
  · rw [h.blk] at hh; simp at hh
  · obtain ⟨_, cs', hh'⟩ := row_type h.row q hq
    rw [hh'] at hh; simp at hh
theorem St4.c0 (h : St4 L W0 g lv i d l m pl K kv w) : w.cell? ⟨g, 0, none⟩ = some lv := by rw [Lib.cell_of_heap h.blk]; rfl
theorem St4.c1 (h : St4 L W0 g lv i d l m pl K kv w) : w.cell? ⟨g, 1, none⟩ = some (.int .i64 i) := by rw [Lib.cell_of_heap h.blk]; rfl
theorem St4.c2 (h : St4 L W0 g lv i d l m pl K kv w) : w.cell? ⟨g, 2, none⟩ = some (.int .i64 d) := by rw [Lib.cell_of_heap h.blk]; rfl
theorem St4.c3 (h : St4 L W0 g lv i d l m pl K kv w) : w.cell? ⟨g, 3, none⟩ = some (.int .i64 l) := by rw [Lib.cell_of_heap h.blk]; rfl
theorem St4.c4 (h : St4 L W0 g lv i d l m pl K kv w) : w.cell? ⟨g, 4, none⟩ = some (.int .i64 m) := by rw [Lib.cell_of_heap h.blk]; rfl
theorem St4.c5 (h : St4 L W0 g lv i d l m pl K kv w) : w.cell? ⟨g, 5, none⟩ = some kv := by rw [Lib.cell_of_heap h.blk]; rfl
theorem St4.c6 (h : St4 L W0 g lv i d l m pl K kv w) : w.cell? ⟨g, 6, none⟩ = some (.int .i64 pl) := by rw [Lib.cell_of_heap h.blk]; rfl
theorem St4.fz (h : St4 L W0 g lv i d l m pl K kv w) (j : Nat) : w.frozen? ⟨g, j, none⟩ = false := Lib.frozen_of_heap h.blk j
/-- The reader in another world, of which nothing but its own block has turned. -/
theorem St4.put (h : St4 L W0 g lv i d l m pl K kv w) {w' : World} {i' d' l' m' : Nat} {pl' : Int} (hk : KeepP (fun k => k = g) w w') (hb : w'.heap[g]? = some (.cells #[lv, .int .i64 i', .int .i64 d', .int .i64 l', .int .i64 m', kv, .int .i64 pl'] 55 (0, 0))) (hm : min m' 40 = min m 40) (hi : i' ≤ L.length ∨ m' = 0) (hmi : m' ≤ i') (hd : d' ≤ 13) (hl : l' ≤ d') : St4 L W0 g lv i' d' l' m' pl' K kv w' := by
  have hg := h.gB
  refine ⟨h.low.trans (hk.below (fun k hk e => by omega) h.low.size), hg, hb, row_keep h.row hk (fun q hq e => (h.own_ne q hq).1 e), fun x hx => ?_, by rw [h.len, hm], hi, hmi, hd, hl⟩
  obtain ⟨h1, h2⟩ := h.rds x hx
  have hn : ∀ q cs fr, w.heap[q]? = some (.cells cs 33 fr) → ¬ (q = g) := fun q cs fr hh e => h.mine_nodes q cs fr hh (.inl e)
  exact ⟨h1.keep hk hn, h2.keep hk hn⟩
theorem set_blk {j : Nat} {v : Value} {cs : Array Value} {T : TypeId} {fr : Nat × Nat} (h : w.heap[g]? = some (.cells cs T fr)) : (w.setCell ⟨g, j, none⟩ v).heap[g]? = some (.cells (cs.setIfInBounds j v) T fr) := by
  simp [World.setCell, Array.getElem?_modify, h]
theorem St4.set1 (h : St4 L W0 g lv i d l m pl K kv w) {j : Nat} (hj : j ≤ L.length) (hm : m ≤ j) : St4 L W0 g lv j d l m pl K kv (w.setCell ⟨g, 1, none⟩ (.int .i64 j)) :=
  h.put KeepP.set (set_blk h.blk) rfl (.inl hj) hm h.dd h.ll
theorem St4.set2 (h : St4 L W0 g lv i d l m pl K kv w) {j : Nat} (hj : j ≤ 13) (hl : l ≤ j) : St4 L W0 g lv i j l m pl K kv (w.setCell ⟨g, 2, none⟩ (.int .i64 j)) :=
  h.put KeepP.set (set_blk h.blk) rfl h.il h.mi hj hl
theorem St4.set3 (h : St4 L W0 g lv i d l m pl K kv w) {j : Nat} (hl : j ≤ d) : St4 L W0 g lv i d j m pl K kv (w.setCell ⟨g, 3, none⟩ (.int .i64 j)) :=
  h.put KeepP.set (set_blk h.blk) rfl h.il h.mi h.dd hl
theorem St4.set6 (h : St4 L W0 g lv i d l m pl K kv w) (p : Int) : St4 L W0 g lv i d l m p K kv (w.setCell ⟨g, 6, none⟩ (.int .i64 p)) :=
  h.put KeepP.set (set_blk h.blk) rfl h.il h.mi h.dd h.ll
theorem St4.on (h : St4 L W0 g lv i d l m pl K kv w) {w' : World} (hb : Below w.heap.size w w') : St4 L W0 g lv i d l m pl K kv w' :=
  h.put (KeepP.of hb) (by rw [hb.block g h.lt]; exact h.blk) rfl h.il h.mi h.dd h.ll
theorem St4.mle (h : St4 L W0 g lv i d l m pl K kv w) : m ≤ L.length := by
  have := h.mi
  rcases h.il with h1 | h1 <;> omega
theorem St4.toks (h : St4 L W0 g lv i d l m pl K kv w) (hs : Src L W0 lv) : ReadT w lv L := by
  obtain ⟨A, c, hv, hc, hr⟩ := hs.toks
  refine ⟨A, c, hv, hc, fun i t hi => ?_⟩
  obtain ⟨b, hA, hb, h0, h1, h2, h3⟩ := hr i t hi
  have e : ∀ j, w.cell? ⟨b, j, none⟩ = W0.cell? ⟨b, j, none⟩ := fun j => h.low.cell (p := ⟨b, j, none⟩) hb
  exact ⟨b, hA, Nat.lt_of_lt_of_le hb h.low.size, by rw [e]; exact h0, by rw [e]; exact h1, by rw [e]; exact h2, by rw [e]; exact h3⟩
theorem St4.tabs (h : St4 L W0 g lv i d l m pl K kv w) (hs : Src L W0 lv) : Tabs w := hs.tabs.on h.low
end
end Go.Proofs.YtpeohfgadnfnpaaGreatDoor
/-
  DERIVED. Layer 4: contracts of the reader's ended, fail, wrong and named (package stmt).
-/
namespace Go.Proofs.YtpeohfgadnfnpaaGreatDoor
open Go.RowKit

section
variable {L : List Tok} {W0 : World} {g : Nat} {lv : Value} {i d l m : Nat} {pl : Int} {K : List Sv} {kv : Value} {w : World}
set_option maxHeartbeats 2000000 in
theorem ended4q (hs : Src L W0 lv) (h : St4 L W0 g lv i d l m pl K kv w) {q : Bool} (hq : decide (L.length ≤ i) = q) : Calls Tryz.prog 71 #[.pointer (some ⟨g, 0, none⟩)] w (fun e w' => e = .returned (.bool q) ∧ ∃ n, w' = w.drewN n) := by
  have hgl := h.lt
  have c0 := h.c0
  have c1 := h.c1
  obtain ⟨A, c, rfl, hc, _⟩ := hs.toks
  have HQ := Lib.hid hq
  clear h hs hq
  go_enter Tryz.func71, Tryz.ntmps71
  go_wp2_with fail
  go_quiet (fail)
  go_wp2_with fail
  go_ret
  exact ⟨ret_bool (by rw [← HQ.out]), _, rfl⟩
set_option maxHeartbeats 2000000 in
theorem ended4 (hs : Src L W0 lv) (h : St4 L W0 g lv i d l m pl K kv w) : Calls Tryz.prog 71 #[.pointer (some ⟨g, 0, none⟩)] w (TellsB (decide (L.length ≤ i)) w) := by
  have hgl := h.lt
  have c0 := h.c0
  have c1 := h.c1
  obtain ⟨A, c, rfl, hc, _⟩ := hs.toks
  clear h hs
  go_enter Tryz.func71, Tryz.ntmps71
  go_wp2_with fail
  go_quiet (fail)
  go_wp2_with fail
  go_ret
  exact ⟨ret_bool (by first | rfl | simp), below_drew1 _ _⟩
/-- The reader has found something wrong: its place is told. -/
def Fails (L : List Tok) (W0 : World) (g : Nat) (lv : Value) (i d l m : Nat) (K : List Sv) (kv : Value) (er pl : Int) (w : World) (e : Ending) (w' : World) : Prop :=
  e = .returned (.int .i64 er) ∧ St4 L W0 g lv i d l m pl K kv w' ∧ KeepP (fun k => k = g) w w'
/-- What a cell holds, if there is one. -/
def heldAt (g j : Nat) (w : World) : Value := (w.cell? ⟨g, j, none⟩).getD (.bool false)
theorem held_of {j : Nat} {v : Value} (h : w.cell? ⟨g, j, none⟩ = some v) : w.cell? ⟨g, j, none⟩ = some (heldAt g j w) := by unfold heldAt; rw [h]; rfl
theorem cells_three {w1 w2 : World} {a b : Value} (hg : g < w.heap.size) (k : w1.cell? ⟨g, 0, none⟩ = some a ∧ w1.cell? ⟨g, 1, none⟩ = some b ∧ w1.cell? ⟨g, 6, none⟩ = some (heldAt g 6 w1) ∧ w1.frozen? ⟨g, 6, none⟩ = false ∧ w.heap.size ≤ w1.heap.size) (hb : Below w1.heap.size w1 w2) : w2.cell? ⟨g, 0, none⟩ = some a ∧ w2.cell? ⟨g, 1, none⟩ = some b ∧ w2.cell? ⟨g, 6, none⟩ = some (heldAt g 6 w2) ∧ w2.frozen? ⟨g, 6, none⟩ = false ∧ w.heap.size ≤ w2.heap.size := by
  obtain ⟨k0, k1, k2, k3, kb⟩ := k
  have hl : g < w1.heap.size := Nat.lt_of_lt_of_le hg kb
  have q : ∀ j, w2.cell? ⟨g, j, none⟩ = w1.cell? ⟨g, j, none⟩ := fun j => hb.cell (p := ⟨g, j, none⟩) hl
  exact ⟨by rw [q, k0], by rw [q, k1], held_of ((q 6).trans k2), (hb.frozen (p := ⟨g, 6, none⟩) hl).trans k3, Nat.le_trans kb hb.size⟩
theorem cells_set {w1 : World} {a b x : Value} (k : w1.cell? ⟨g, 0, none⟩ = some a ∧ w1.cell? ⟨g, 1, none⟩ = some b ∧ w1.cell? ⟨g, 6, none⟩ = some (heldAt g 6 w1) ∧ w1.frozen? ⟨g, 6, none⟩ = false ∧ w.heap.size ≤ w1.heap.size) : (w1.setCell ⟨g, 6, none⟩ x).cell? ⟨g, 0, none⟩ = some a ∧ (w1.setCell ⟨g, 6, none⟩ x).cell? ⟨g, 1, none⟩ = some b ∧ (w1.setCell ⟨g, 6, none⟩ x).cell? ⟨g, 6, none⟩ = some (heldAt g 6 (w1.setCell ⟨g, 6, none⟩ x)) ∧ (w1.setCell ⟨g, 6, none⟩ x).frozen? ⟨g, 6, none⟩ = false ∧ w.heap.size ≤ (w1.setCell ⟨g, 6, none⟩ x).heap.size := by
  obtain ⟨k0, k1, k2, k3, kb⟩ := k
  exact ⟨(World.cell?_setCell_other _ _ _ _ (by simp)).trans k0, (World.cell?_setCell_other _ _ _ _ (by simp)).trans k1, held_of (World.cell?_setCell_same _ _ _ k2), by simpa using k3, by simpa using kb⟩
set_option maxRecDepth 100000 in
set_option maxHeartbeats 4000000 in
theorem fail4 (hs : Src L W0 lv) (h : St4 L W0 g lv i d l m pl K kv w) (er : Int) : Calls Tryz.prog 50 #[.pointer (some ⟨g, 0, none⟩), .int .i64 er] w (Fails L W0 g lv i d l m K kv er (placeV L i) w) := by
  have hgl := h.lt
  have c0 := h.c0
  have c1 := h.c1
  have HS := Lib.hid h
  have HC := Lib.hid hs
  have c6 := h.c6
  have f6 := h.fz 6
  clear h hs
  go_enter Tryz.func50, Tryz.ntmps50
  go_wp2_with fail
  go_region_held3 (fun w' => w'.cell? ⟨g, 0, none⟩ = some lv ∧ w'.cell? ⟨g, 1, none⟩ = some (.int .i64 i) ∧ w'.cell? ⟨g, 6, none⟩ = some (heldAt g 6 w') ∧ w'.frozen? ⟨g, 6, none⟩ = false ∧ w.heap.size ≤ w'.heap.size)
    (first | exact ⟨c0, c1, held_of c6, f6, Nat.le_refl _⟩ | exact cells_three (w1 := w.drew) hgl ⟨c0, c1, held_of c6, f6, Nat.le_refl _⟩ hb1 | exact cells_set (cells_three (w1 := w.drew) hgl ⟨c0, c1, held_of c6, f6, Nat.le_refl _⟩ hb1))
    (first | (go_at_call 28; refine (place_any lv L i _ ((HS.out.on (below_dr _)).toks HC.out) HC.out.len HC.out.small).mono ?_; rintro e w1 ⟨rfl, hb1⟩))
  have HS1 := Lib.hid ((HS.out.on (below_then (below_dr w) hb1)).set6 (placeV L i))
  have HK := Lib.hid ((KeepP.of (P := fun k => k = g) (below_then (below_dr w) hb1)).trans (KeepP.set (j := 6) (v := .int .i64 (placeV L i))) (fun _ _ h => h) (fun _ _ h => h))
  go_wp2_with fail
  go_ret
  exact ⟨rfl, HS1.out, HK.out⟩
set_option maxRecDepth 100000 in
set_option maxHeartbeats 4000000 in
theorem wrong4 (hs : Src L W0 lv) (h : St4 L W0 g lv i d l m pl K kv w) : Calls Tryz.prog 49 #[.pointer (some ⟨g, 0, none⟩)] w (Fails L W0 g lv i d l m K kv (if i < L.length then 5 else 6) (placeV L i) w) := by
  have HS := Lib.hid h
  have HC := Lib.hid hs
  clear h hs
  by_cases hi : i < L.length
  · rw [if_pos hi]
    have HD : Hid (decide (L.length ≤ i) = false) := Lib.hid (by simp; omega)
    clear hi
    go_enter Tryz.func49, Tryz.ntmps49
    go_wp2_with fail
    refine (ended4 HC.out HS.out).mono ?_
    rw [HD.out]
    rintro e w1 ⟨rfl, hb1⟩
    have HS1 := Lib.hid (HS.out.on hb1)
    have HB := Lib.hid hb1
    clear hb1
    go_wp2_with fail
    refine (fail4 HC.out HS1.out 5).mono ?_
    rintro e w2 ⟨rfl, hs2, hk2⟩
    have HS2 := Lib.hid hs2
    have HK := Lib.hid ((KeepP.of (P := fun k => k = g) HB.out).trans hk2 (fun _ _ h => h) (fun _ _ h => h))
    clear hs2 hk2
    go_wp2_with fail
    go_ret
    exact ⟨rfl, HS2.out, HK.out⟩
  · rw [if_neg hi]
    have HD : Hid (decide (L.length ≤ i) = true) := Lib.hid (by simp; omega)
    clear hi
    go_enter Tryz.func49, Tryz.ntmps49
    go_wp2_with fail
    refine (ended4 HC.out HS.out).mono ?_
    rw [HD.out]
    rintro e w1 ⟨rfl, hb1⟩
    have HS1 := Lib.hid (HS.out.on hb1)
    have HB := Lib.hid hb1
    clear hb1
    go_wp2_with fail
    refine (fail4 HC.out HS1.out 6).mono ?_
    rintro e w2 ⟨rfl, hs2, hk2⟩
    have HS2 := Lib.hid hs2
    have HK := Lib.hid ((KeepP.of (P := fun k => k = g) HB.out).trans hk2 (fun _ _ h => h) (fun _ _ h => h))
    clear hs2 hk2
    go_wp2_with fail
    go_ret
    exact ⟨rfl, HS2.out, HK.out⟩
/-! ### named -/
def namedB (L : List Tok) (i : Nat) : Bool := (nameAt L i).isSome
theorem named_end (h : ¬ i < L.length) : namedB L i = false := by
  unfold namedB nameAt; rw [List.getElem?_eq_none (by omega)]; rfl
theorem named_kind {t : Tok} (h : L[i]? = some t) (hk : ¬ t.kind = 1) : namedB L i = false := by
  unfold namedB nameAt; rw [h]; simp [hk]
theorem named_word {t : Tok} (h : L[i]? = some t) (hk : t.kind = 1) : namedB L i = nameB t.text := by
  unfold namedB nameAt; rw [h]; simp only [hk, true_and]; cases nameB t.text <;> rfl
/-- The cells of the token at which the reader stands. -/
theorem St4.tok (h : St4 L W0 g lv i d l m pl K kv w) (hs : Src L W0 lv) {t : Tok} (ht : L[i]? = some t) : ∃ b c, lv = .slice (some ⟨b, 0, none⟩) L.length c ∧ L.length ≤ c ∧ b < w.heap.size ∧ b < W0.heap.size ∧ w.cell? ⟨b, i * 4, none⟩ = some (.int .i64 t.kind) ∧ w.cell? ⟨b, i * 4 + 1, none⟩ = some (.string ⟨t.text.toArray⟩) ∧ w.cell? ⟨b, i * 4 + 2, none⟩ = some (.int .i64 t.n) ∧ w.cell? ⟨b, i * 4 + 3, none⟩ = some (.int .i64 t.pl) := by
  obtain ⟨A, c, hv, hc, hr⟩ := hs.toks
  obtain ⟨b, hA, hb, h0, h1, h2, h3⟩ := hr i t ht
  have e : ∀ j, w.cell? ⟨b, j, none⟩ = W0.cell? ⟨b, j, none⟩ := fun j => h.low.cell (p := ⟨b, j, none⟩) hb
  exact ⟨b, c, by rw [hv, hA], hc, Nat.lt_of_lt_of_le hb h.low.size, hb, by rw [e]; exact h0, by rw [e]; exact h1, by rw [e]; exact h2, by rw [e]; exact h3⟩
theorem toks_stay {w1 w2 : World} {a : Value} {x y : Value} {b : Nat} (hg : g < w.heap.size) (hb0 : b < w.heap.size) (k : w1.cell? ⟨g, 0, none⟩ = some a ∧ w1.cell? ⟨g, 1, none⟩ = some (.int .i64 i) ∧ w1.cell? ⟨b, i * 4, none⟩ = some x ∧ w1.cell? ⟨b, i * 4 + 1, none⟩ = some y ∧ Below w.heap.size w w1) (hb : Below w1.heap.size w1 w2) : w2.cell? ⟨g, 0, none⟩ = some a ∧ w2.cell? ⟨g, 1, none⟩ = some (.int .i64 i) ∧ w2.cell? ⟨b, i * 4, none⟩ = some x ∧ w2.cell? ⟨b, i * 4 + 1, none⟩ = some y ∧ Below w.heap.size w w2 := by
  obtain ⟨k0, k1, k2, k3, kb⟩ := k
  have q : ∀ e j, e < w.heap.size → w2.cell? ⟨e, j, none⟩ = w1.cell? ⟨e, j, none⟩ := fun e j he => hb.cell (p := ⟨e, j, none⟩) (Nat.lt_of_lt_of_le he kb.size)
  exact ⟨by rw [q g _ hg, k0], by rw [q g _ hg, k1], by rw [q b _ hb0, k2], by rw [q b _ hb0, k3], below_then kb hb⟩
set_option maxRecDepth 100000 in
set_option maxHeartbeats 4000000 in
theorem named4 (hs : Src L W0 lv) (h : St4 L W0 g lv i d l m pl K kv w) : Calls Tryz.prog 103 #[.pointer (some ⟨g, 0, none⟩)] w (TellsB (namedB L i) w) := by
  have HS := Lib.hid h
  have HC := Lib.hid hs
  have hgl := h.lt
  have c0 := h.c0
  have c1 := h.c1
  by_cases hi : i < L.length
  · obtain ⟨t, ht⟩ : ∃ t, L[i]? = some t := ⟨L[i], List.getElem?_eq_getElem hi⟩
    obtain ⟨b, c, rfl, hc, hb0, _, t0, t1, _, _⟩ := h.tok hs ht
    have hsm := hs.small t (List.mem_of_getElem? ht)
    have HD : Hid (decide (L.length ≤ i) = false) := Lib.hid (by simp; omega)
    have hl := hs.len
    by_cases hk : t.kind = 1
    · have HN := Lib.hid (named_word ht hk)
      have hk1 : (t.kind == 1) = true := by simp [hk]
      clear h hs ht
      rw [HN.out]
      go_enter Tryz.func103, Tryz.ntmps103
      go_wp2_with fail
      go_region_held3 (fun w' => w'.cell? ⟨g, 0, none⟩ = some (.slice (some ⟨b, 0, none⟩) L.length c) ∧ w'.cell? ⟨g, 1, none⟩ = some (.int .i64 i) ∧ w'.cell? ⟨b, i * 4, none⟩ = some (.int .i64 t.kind) ∧ w'.cell? ⟨b, i * 4 + 1, none⟩ = some (.string ⟨t.text.toArray⟩) ∧ Below w.heap.size w w')
        (first | exact ⟨c0, c1, t0, t1, Below.refl _ _⟩ | exact ⟨c0, c1, t0, t1, below_dr _⟩ | exact toks_stay (w1 := w.drew) hgl hb0 ⟨c0, c1, t0, t1, below_dr _⟩ hb1 | exact toks_stay hgl hb0 (toks_stay (w1 := w.drew) hgl hb0 ⟨c0, c1, t0, t1, below_dr _⟩ hb1) hb2)
        (first
          | (go_at_call 71; refine (ended4 HC.out (HS.out.on (below_dr _))).mono ?_; rw [HD.out]; rintro e w1 ⟨rfl, hb1⟩)
          | (go_at_call 75; refine (name_any ⟨t.text.toArray⟩ _ (by show t.text.length ≤ _; omega)).mono ?_; rintro e w2 ⟨rfl, hb2⟩))
      go_wp2_with fail
      go_ret
      exact ⟨ret_bool (by simp), below_then (below_then (below_dr w) hb1) hb2⟩
    · have HN := Lib.hid (named_kind ht hk)
      have hk1 : (t.kind == 1) = false := by simp [hk]
      clear h hs ht hk
      rw [HN.out]
      go_enter Tryz.func103, Tryz.ntmps103
      go_wp2_with fail
      go_quiet (first | (go_at_call 71; refine Calls.quiet_of (ended4q HC.out (HS.out.on (below_drew1 _ _)) HD.out)))
      go_wp2_with fail
      go_ret
      exact ⟨rfl, below_drew1 _ _⟩
  · have HN := Lib.hid (named_end (L := L) hi)
    have HD : Hid (decide (L.length ≤ i) = true) := Lib.hid (by simp; omega)
    clear h hs
    rw [HN.out]
    go_enter Tryz.func103, Tryz.ntmps103
    go_wp2_with fail
    go_quiet (first | (go_at_call 71; refine Calls.quiet_of (ended4q HC.out (HS.out.on (below_drew1 _ _)) HD.out)))
    go_wp2_with fail
    go_ret
    exact ⟨rfl, below_drew1 _ _⟩
end
end Go.Proofs.YtpeohfgadnfnpaaGreatDoor
