/-
  DERIVED. Layer 3: the contract of expr.join.
-/
import Derived.Test.YtpeohfgadnfnpaaGreatDoorQ11
import Derived.Maps.AppendAt
import Derived.Laws.AppendOwnNone
namespace Go.Proofs.YtpeohfgadnfnpaaGreatDoor
open Go.RowKit

/-- A part of an expression as the reader has it: its nodes, how many, how deep. -/
structure Prt where
  ns : List Nod
  many : Nat
  deep : Nat
def prtOf (x : Ex) : Prt := ⟨if x.size ≤ 40 then x.flat else [], x.size, x.deep⟩
def manys (ps : List Prt) : Nat := 1 + (ps.map (·.many)).sum
def deepsP (ps : List Prt) : Nat := ps.foldl (fun k p => max k (p.deep + 1)) 1
def allN (a : Nod) (ps : List Prt) : List Nod := a :: ps.flatMap (·.ns)
def joinP (a : Nod) (ps : List Prt) : Prt := ⟨if manys ps ≤ 40 then allN a ps else [], manys ps, deepsP ps⟩
theorem join_leaf (a : Nod) : joinP a [] = prtOf (.leaf a) := rfl
theorem prt_eq {n n' : List Nod} {m m' k k' : Nat} (h1 : n = n') (h2 : m = m') (h3 : k = k') : (⟨n, m, k⟩ : Prt) = ⟨n', m', k'⟩ := by
  subst h1; subst h2; subst h3; rfl
theorem join_un (a : Nod) (x : Ex) : joinP a [prtOf x] = prtOf (.un a x) := by
  have e : manys [prtOf x] = (Ex.un a x).size := by simp [manys, prtOf, Ex.size]; omega
  refine prt_eq ?_ e ?_
  · rw [e]
    by_cases h1 : (Ex.un a x).size ≤ 40
    · rw [if_pos h1, if_pos h1]
      have : x.size ≤ 40 := by simp only [Ex.size] at h1; omega
      simp [allN, prtOf, this, Ex.flat]
    · rw [if_neg h1, if_neg h1]
  · have h := deep_pos x
    simp only [deepsP, prtOf, List.foldl_cons, List.foldl_nil, Ex.deep]; omega
theorem join_bin (a : Nod) (x y : Ex) : joinP a [prtOf x, prtOf y] = prtOf (.bin a x y) := by
  have e : manys [prtOf x, prtOf y] = (Ex.bin a x y).size := by simp [manys, prtOf, Ex.size]; omega
  refine prt_eq ?_ e ?_
  · rw [e]
    by_cases h1 : (Ex.bin a x y).size ≤ 40
    · rw [if_pos h1, if_pos h1]
      have h2 : x.size ≤ 40 := by simp only [Ex.size] at h1; omega
      have h3 : y.size ≤ 40 := by simp only [Ex.size] at h1; omega
      simp [allN, prtOf, h2, h3, Ex.flat]
    · rw [if_neg h1, if_neg h1]
  · have h := deep_pos x
    simp only [deepsP, prtOf, List.foldl_cons, List.foldl_nil, Ex.deep]; omega
/-- No part is too great. -/
def FitsP (p : Prt) : Prop := p.ns.length ≤ 40 ∧ p.many ≤ 100000 ∧ p.deep ≤ 100000
/-- A slice of nodes: none, or one that lies somewhere. -/
def Lies (w : World) (u : Value) (L : List Nod) : Prop := ReadN w u L ∧ (u = .slice none 0 0 ∨ ∃ g o n c, u = .slice (some ⟨g, o, none⟩) n c)
theorem OwnN.lies {w : World} {B : Nat} {v : Value} {L : List Nod} (h : OwnN w B v L) : Lies w v L := by
  refine ⟨h.read, ?_⟩
  rcases h.2 with ⟨rfl, _⟩ | ⟨g, cap, cur, rfl, _⟩
  · exact .inl rfl
  · exact .inr ⟨g, 0, _, _, rfl⟩
theorem Lies.on {w w' : World} {v : Value} {L : List Nod} (h : Lies w v L) (hb : Below w.heap.size w w') : Lies w' v L := ⟨h.1.on hb, h.2⟩
/-- A slice that reads as these parts. -/
def ReadP (w : World) (vs : Value) (ps : List Prt) : Prop :=
  ∃ A c, vs = .slice A ps.length c ∧ ps.length ≤ c ∧ ∀ i p, ps[i]? = some p → ∃ g u, A = some ⟨g, 0, none⟩ ∧ g < w.heap.size ∧ w.cell? ⟨g, i * 3, none⟩ = some u ∧ w.cell? ⟨g, i * 3 + 1, none⟩ = some (.int .i64 p.many) ∧ w.cell? ⟨g, i * 3 + 2, none⟩ = some (.int .i64 p.deep) ∧ Lies w u p.ns
theorem ReadP.on {w w' : World} {v : Value} {ps : List Prt} (h : ReadP w v ps) (hb : Below w.heap.size w w') : ReadP w' v ps := by
  obtain ⟨A, c, hv, hc, hr⟩ := h
  refine ⟨A, c, hv, hc, fun i t hi => ?_⟩
  obtain ⟨g, u, hA, hg, h0, h1, h2, h3⟩ := hr i t hi
  have e : ∀ j, w'.cell? ⟨g, j, none⟩ = w.cell? ⟨g, j, none⟩ := fun j => hb.cell (p := ⟨g, j, none⟩) hg
  exact ⟨g, u, hA, Nat.lt_of_lt_of_le hg hb.size, by rw [e]; exact h0, by rw [e]; exact h1, by rw [e]; exact h2, h3.on hb⟩
/-- What a slice of nodes hands to an append. -/
theorem read_news {w : World} {g o n c : Nat} {L : List Nod} (h : ReadN w (.slice (some ⟨g, o, none⟩) n c) L) : ∀ j u, (cellsN L)[j]? = some u → w.cell? ((⟨g, o, none⟩ : Addr).add j) = some u := by
  intro j u hu
  obtain ⟨i, t, hi, hj, ht⟩ := cellsN_back L j u hu
  obtain ⟨A, c', hv, _, _, hr⟩ := h
  simp only [Value.slice.injEq] at hv
  obtain ⟨rfl, _, _⟩ := hv
  obtain ⟨g', o', hA, _, x0, x1, x2, x3⟩ := hr i t hi
  simp only [Option.some.injEq, Addr.mk.injEq] at hA
  obtain ⟨rfl, rfl, _⟩ := hA
  have e : (⟨g, o, none⟩ : Addr).add j = ⟨g, o + j, none⟩ := by
    unfold Addr.add
    by_cases h0 : j = 0
    · rw [if_pos h0, h0]; rfl
    · rw [if_neg h0]
  rw [e]
  have hm : j % 4 < 4 := Nat.mod_lt _ (by decide)
  generalize j % 4 = q at *
  match q, hm, ht, hj with
  | 0, _, ht, hj => simp [nodCells] at ht; subst ht; rw [show o + j = o + i * 4 from by omega]; exact x0
  | 1, _, ht, hj => simp [nodCells] at ht; subst ht; rw [show o + j = o + i * 4 + 1 from by omega]; exact x1
  | 2, _, ht, hj => simp [nodCells] at ht; subst ht; rw [show o + j = o + i * 4 + 2 from by omega]; exact x2
  | 3, _, ht, hj => simp [nodCells] at ht; subst ht; rw [show o + j = o + i * 4 + 3 from by omega]; exact x3
/-- A box of three cells that may be written. -/
structure Pd (w : World) (g : Nat) (x y z : Value) : Prop where
  lt : g < w.heap.size
  c0 : w.cell? ⟨g, 0, none⟩ = some x
  c1 : w.cell? ⟨g, 1, none⟩ = some y
  c2 : w.cell? ⟨g, 2, none⟩ = some z
  f0 : w.frozen? ⟨g, 0, none⟩ = false
  f1 : w.frozen? ⟨g, 1, none⟩ = false
  f2 : w.frozen? ⟨g, 2, none⟩ = false
theorem Pd.on {w w' : World} {g : Nat} {x y z : Value} (h : Pd w g x y z) (hb : Below w.heap.size w w') : Pd w' g x y z :=
  ⟨Nat.lt_of_lt_of_le h.lt hb.size, (hb.cell (p := ⟨g, 0, none⟩) h.lt).trans h.c0, (hb.cell (p := ⟨g, 1, none⟩) h.lt).trans h.c1, (hb.cell (p := ⟨g, 2, none⟩) h.lt).trans h.c2, (hb.frozen (p := ⟨g, 0, none⟩) h.lt).trans h.f0, (hb.frozen (p := ⟨g, 1, none⟩) h.lt).trans h.f1, (hb.frozen (p := ⟨g, 2, none⟩) h.lt).trans h.f2⟩
theorem Pd.grown {w w' : World} {g : Nat} {x y z : Value} {r : Option Nat} (h : Pd w g x y z) (hb : w.grownBy w' r) (hg : some g ≠ r) : Pd w' g x y z := by
  have e : ∀ j, w'.cell? ⟨g, j, none⟩ = w.cell? ⟨g, j, none⟩ := fun j => World.cell?_of_block (hb.block g h.lt hg)
  have f : ∀ j, w'.frozen? ⟨g, j, none⟩ = w.frozen? ⟨g, j, none⟩ := fun j => World.frozen?_of_block (hb.block g h.lt hg)
  exact ⟨Nat.lt_of_lt_of_le h.lt hb.size, (e 0).trans h.c0, (e 1).trans h.c1, (e 2).trans h.c2, (f 0).trans h.f0, (f 1).trans h.f1, (f 2).trans h.f2⟩
theorem Pd.away {w : World} {g b j : Nat} {x y z v : Value} (h : Pd w g x y z) (hg : b ≠ g) : Pd (w.setCell ⟨b, j, none⟩ v) g x y z :=
  ⟨by simpa using h.lt, (World.cell?_setCell_other _ _ _ _ (fun e => hg (congrArg Addr.block e))).trans h.c0, (World.cell?_setCell_other _ _ _ _ (fun e => hg (congrArg Addr.block e))).trans h.c1, (World.cell?_setCell_other _ _ _ _ (fun e => hg (congrArg Addr.block e))).trans h.c2, by simpa using h.f0, by simpa using h.f1, by simpa using h.f2⟩
theorem Pd.set {w : World} {g : Nat} {x y z : Value} (h : Pd w g x y z) (x' y' z' : Value) : Pd (((w.setCell ⟨g, 0, none⟩ x').setCell ⟨g, 1, none⟩ y').setCell ⟨g, 2, none⟩ z') g x' y' z' := by
  have a0 : (w.setCell ⟨g, 0, none⟩ x').cell? ⟨g, 0, none⟩ = some x' := World.cell?_setCell_same _ _ _ h.c0
  have a1 : (w.setCell ⟨g, 0, none⟩ x').cell? ⟨g, 1, none⟩ = some y := (World.cell?_setCell_other _ _ _ _ (by simp)).trans h.c1
  have a2 : (w.setCell ⟨g, 0, none⟩ x').cell? ⟨g, 2, none⟩ = some z := (World.cell?_setCell_other _ _ _ _ (by simp)).trans h.c2
  have b0 : ((w.setCell ⟨g, 0, none⟩ x').setCell ⟨g, 1, none⟩ y').cell? ⟨g, 0, none⟩ = some x' := (World.cell?_setCell_other _ _ _ _ (by simp)).trans a0
  have b1 : ((w.setCell ⟨g, 0, none⟩ x').setCell ⟨g, 1, none⟩ y').cell? ⟨g, 1, none⟩ = some y' := World.cell?_setCell_same _ _ _ a1
  have b2 : ((w.setCell ⟨g, 0, none⟩ x').setCell ⟨g, 1, none⟩ y').cell? ⟨g, 2, none⟩ = some z := (World.cell?_setCell_other _ _ _ _ (by simp)).trans a2
  exact ⟨by simpa using h.lt, (World.cell?_setCell_other _ _ _ _ (by simp)).trans b0, (World.cell?_setCell_other _ _ _ _ (by simp)).trans b1, World.cell?_setCell_same _ _ _ b2, by simpa using h.f0, by simpa using h.f1, by simpa using h.f2⟩
theorem OwnN.away {g B : Nat} {w w' : World} {v : Value} {L : List Nod} (h : OwnN w B v L) (hB : ∀ b, v.ownBlock = some b → b ≠ g) (hk : Keeps g w w') : OwnN w' B v L := by
  obtain ⟨h1, h2⟩ := h
  refine ⟨h1, ?_⟩
  rcases h2 with h2 | ⟨b, cap, cur, rfl, hg, hh, r⟩
  · exact .inl h2
  · exact .inr ⟨b, cap, cur, rfl, hg, (hk.block b (Array.getElem?_eq_some_iff.1 hh).1 (hB b rfl)).trans hh, r⟩
theorem ownN_block {w : World} {B : Nat} {v : Value} {L : List Nod} (h : OwnN w B v L) : ∀ g, v.ownBlock = some g → B ≤ g ∧ g < w.heap.size := by
  intro g hg
  rcases h.2 with ⟨rfl, _⟩ | ⟨g', cap, cur, rfl, hB, hh, _⟩
  · simp [Value.ownBlock] at hg
  · simp [Value.ownBlock] at hg
    subst hg
    exact ⟨hB, (Array.getElem?_eq_some_iff.1 hh).1⟩
theorem ownN_form {w : World} {B : Nat} {v : Value} {L : List Nod} (h : OwnN w B v L) (hn : 0 < L.length) : ∃ g cap, v = .slice (some ⟨g, 0, none⟩) L.length cap := by
  rcases h.2 with ⟨_, h0⟩ | ⟨g, cap, cur, hv, _⟩
  · omega
  · exact ⟨g, cap, hv⟩
theorem manys_succ {ps : List Prt} {k : Nat} {p : Prt} (h : ps[k]? = some p) : manys (ps.take (k + 1)) = manys (ps.take k) + p.many := by
  unfold manys; rw [List.take_add_one, h]; simp; omega
theorem deepsP_succ {ps : List Prt} {k : Nat} {p : Prt} (h : ps[k]? = some p) : deepsP (ps.take (k + 1)) = max (deepsP (ps.take k)) (p.deep + 1) := by
  unfold deepsP; rw [List.take_add_one, h]; simp
theorem allN_succ {a : Nod} {ps : List Prt} {k : Nat} {p : Prt} (h : ps[k]? = some p) : allN a (ps.take (k + 1)) = allN a (ps.take k) ++ p.ns := by
  unfold allN; rw [List.take_add_one, h]; simp
/-- How the call stands at a round's head. -/
def JoinI (a : Nod) (ps : List Prt) (w : World) (k : Nat) (wr : World) : Prop :=
  ∃ u, Pd wr (w.heap.size + 3) u (.int .i64 (manys (ps.take k) : Nat)) (.int .i64 (deepsP (ps.take k) : Nat)) ∧ OwnN wr w.heap.size u (allN a (ps.take k)) ∧ (∀ b, u.ownBlock = some b → b ≠ w.heap.size + 3 ∧ b ≠ w.heap.size + 1) ∧
    Pd wr (w.heap.size + 1) (.slice none 0 0) (.int .i64 0) (.int .i64 0) ∧ Below w.heap.size w wr ∧ manys (ps.take k) ≤ 1 + k * 100000 ∧ deepsP (ps.take k) ≤ 100001 ∧ (allN a (ps.take k)).length ≤ 1 + k * 40
theorem pd_new (w : World) (x y z : Value) : Pd (w.alloc (.cells #[x, y, z] 166)) w.heap.size x y z := ⟨by simp, by simp, by simp, by simp, by simp, by simp, by simp⟩
theorem JoinI.on {a : Nod} {ps : List Prt} {w X X' : World} {k : Nat} (h : JoinI a ps w k X) (hb : Below X.heap.size X X') : JoinI a ps w k X' := by
  obtain ⟨u, h1, h2, h3, h4, h5, h6⟩ := h
  exact ⟨u, h1.on hb, h2.on hb, h3, h4.on hb, below_then h5 hb, h6⟩
theorem join_start (a : Nod) (ps : List Prt) (w : World) : JoinI a ps w 0 ((((w.alloc (.cells #[.int .i64 a.op, .int .i64 a.n, .string ⟨a.name.toArray⟩, .int .i64 a.pl] 33)).alloc (.cells #[.slice none 0 0, .int .i64 0, .int .i64 0] 166)).alloc
    (.cells #[.int .i64 a.op, .int .i64 a.n, .string ⟨a.name.toArray⟩, .int .i64 a.pl] 33)).alloc (.cells #[.slice (some ⟨w.heap.size + 1 + 1, 0, none⟩) 1 1, .int .i64 1, .int .i64 1] 166)) := by
  have b1 : Below w.heap.size w (w.alloc (.cells #[.int .i64 a.op, .int .i64 a.n, .string ⟨a.name.toArray⟩, .int .i64 a.pl] 33)) := (Below.refl _ _).alloc (Nat.le_refl _) _
  have s1 : (w.alloc (.cells #[.int .i64 a.op, .int .i64 a.n, .string ⟨a.name.toArray⟩, .int .i64 a.pl] 33)).heap.size = w.heap.size + 1 := by simp
  generalize w.alloc (.cells #[.int .i64 a.op, .int .i64 a.n, .string ⟨a.name.toArray⟩, .int .i64 a.pl] 33) = w1 at *
  have b2 : Below w1.heap.size w1 (w1.alloc (.cells #[.slice none 0 0, .int .i64 0, .int .i64 0] 166)) := (Below.refl _ _).alloc (Nat.le_refl _) _
  have s2 : (w1.alloc (.cells #[.slice none 0 0, .int .i64 0, .int .i64 0] 166)).heap.size = w1.heap.size + 1 := by simp
  have p2 := pd_new w1 (.slice none 0 0) (.int .i64 0) (.int .i64 0)
  generalize w1.alloc (.cells #[.slice none 0 0, .int .i64 0, .int .i64 0] 166) = w2 at *
  have b3 : Below w2.heap.size w2 (w2.alloc (.cells #[.int .i64 a.op, .int .i64 a.n, .string ⟨a.name.toArray⟩, .int .i64 a.pl] 33)) := (Below.refl _ _).alloc (Nat.le_refl _) _
  have s3 : (w2.alloc (.cells #[.int .i64 a.op, .int .i64 a.n, .string ⟨a.name.toArray⟩, .int .i64 a.pl] 33)).heap.size = w2.heap.size + 1 := by simp
  have o3 : OwnN (w2.alloc (.cells #[.int .i64 a.op, .int .i64 a.n, .string ⟨a.name.toArray⟩, .int .i64 a.pl] 33)) w.heap.size (.slice (some ⟨w2.heap.size, 0, none⟩) 1 1) [a] :=
    ⟨rfl, .inr ⟨w2.heap.size, 1, _, rfl, by omega, heap_alloc_new w2 _, Nat.le_refl _, by decide, rfl, rfl⟩⟩
  generalize w2.alloc (.cells #[.int .i64 a.op, .int .i64 a.n, .string ⟨a.name.toArray⟩, .int .i64 a.pl] 33) = w3 at *
  rw [show w.heap.size + 1 + 1 = w2.heap.size from by omega]
  have p4 := pd_new w3 (.slice (some ⟨w2.heap.size, 0, none⟩) 1 1) (.int .i64 1) (.int .i64 1)
  have b4 : Below w3.heap.size w3 (w3.alloc (.cells #[.slice (some ⟨w2.heap.size, 0, none⟩) 1 1, .int .i64 1, .int .i64 1] 166)) := (Below.refl _ _).alloc (Nat.le_refl _) _
  generalize w3.alloc (.cells #[.slice (some ⟨w2.heap.size, 0, none⟩) 1 1, .int .i64 1, .int .i64 1] 166) = w4 at *
  refine ⟨.slice (some ⟨w2.heap.size, 0, none⟩) 1 1, ?_, o3.on b4, ?_, ?_, below_then b1 (below_then b2 (below_then b3 b4)), by simp [manys], by simp [deepsP], by simp [allN]⟩
  · rw [show w.heap.size + 3 = w3.heap.size from by omega]; exact p4
  · intro b hb
    simp [Value.ownBlock] at hb
    omega
  · rw [show w.heap.size + 1 = w1.heap.size from by omega]; exact (p2.on b3).on b4
theorem join_next {a : Nod} {ps : List Prt} {w X : World} {k : Nat} {p : Prt} {u v' x0 y0 y z : Value} (hp : ps[k]? = some p) (hf : FitsP p) (h3 : Pd X (w.heap.size + 3) u x0 y0) (hown : OwnN X w.heap.size v' (allN a (ps.take k) ++ p.ns)) (hb : ∀ b, v'.ownBlock = some b → b ≠ w.heap.size + 3 ∧ b ≠ w.heap.size + 1)
    (h1 : Pd X (w.heap.size + 1) (.slice none 0 0) (.int .i64 0) (.int .i64 0)) (hw : Below w.heap.size w X) (hm : manys (ps.take k) ≤ 1 + k * 100000) (hd : deepsP (ps.take k) ≤ 100001) (hl : (allN a (ps.take k)).length ≤ 1 + k * 40)
    (hy : .int .i64 (manys (ps.take (k + 1)) : Nat) = y) (hz : .int .i64 (deepsP (ps.take (k + 1)) : Nat) = z) :
    JoinI a ps w (k + 1) (((X.setCell ⟨w.heap.size + 3, 0, none⟩ v').setCell ⟨w.heap.size + 3, 1, none⟩ y).setCell ⟨w.heap.size + 3, 2, none⟩ z) := by
  subst hy; subst hz
  obtain ⟨f1, f2, f3⟩ := hf
  refine ⟨v', h3.set v' _ _, ?_, hb, ((h1.away (by omega)).away (by omega)).away (by omega), ((hw.setCell (by show _ ≤ _ + 3; omega) _).setCell (by show _ ≤ _ + 3; omega) _).setCell (by show _ ≤ _ + 3; omega) _, ?_, ?_, ?_⟩
  · rw [allN_succ hp]
    exact hown.away (fun b hb' => (hb b hb').1) (((Keeps.refl _ _).set).set).set
  · rw [manys_succ hp]; omega
  · rw [deepsP_succ hp]; omega
  · rw [allN_succ hp, List.length_append]; omega
theorem info30 : (Tryz.prog.info? 33).map (fun i => (i.zero, i.size, i.bytes)) = some (some (.agg #[.int .i64 0, .int .i64 0, .string ⟨#[]⟩, .int .i64 0]), 4, 40) := by kernel_rfl
/-- What a join comes back with. -/
def GivesJ (P : Prt) (w : World) (e : Ending) (w' : World) : Prop := ∃ u, e = .returned (.agg #[u, .int .i64 P.many, .int .i64 P.deep]) ∧ OwnN w' w.heap.size u P.ns ∧ Below w.heap.size w w'

set_option maxRecDepth 100000 in
set_option maxHeartbeats 4000000 in
theorem join_any (a : Nod) (vs : Value) (ps : List Prt) (w : World) (h : ReadP w vs ps) (hl : ps.length ≤ 2) (hf : ∀ p ∈ ps, FitsP p) :
    Calls Tryz.prog 149 #[.agg #[.int .i64 a.op, .int .i64 a.n, .string ⟨a.name.toArray⟩, .int .i64 a.pl], vs] w (GivesJ (joinP a ps) w) := by
  obtain ⟨i0, hi, hz0, hz1, hz2⟩ := info_parts info30
  have HZ := Lib.hid (show Tryz.prog.info? 33 = some i0 ∧ i0.zero = some (.agg #[.int .i64 0, .int .i64 0, .string ⟨#[]⟩, .int .i64 0]) ∧ i0.size = 4 ∧ i0.bytes = 40 from ⟨hi, hz0, hz1, hz2⟩)
  clear hi hz0 hz1 hz2
  have HR := Lib.hid h
  have HF := Lib.hid hf
  obtain ⟨A, c, rfl, hc, hr⟩ := h
  clear hr hf
  go_enter Tryz.func149, Tryz.ntmps149
  go_wp2_with fail
  go_loopw [13] (fun i wr => ∃ k : Nat, k ≤ ps.length ∧ i = .int .i64 k ∧ JoinI a ps w k wr) (fun i _ => ps.length - (intOf i).toNat)
  case atStart => exact ⟨0, Nat.zero_le _, rfl, join_start a ps w⟩
  case round =>
    obtain ⟨k, hk, rfl, u, hp, hown, hub, hp1, hbel, hm, hd, hlen⟩ := hrel
    have HP := Lib.hid hp
    have HO := Lib.hid hown
    have HU := Lib.hid hub
    have HP1 := Lib.hid hp1
    have HB := Lib.hid hbel
    have HM := Lib.hid hm
    have HD := Lib.hid hd
    have HLE := Lib.hid hlen
    have hsz := hbel.size
    obtain ⟨g3, cap3, rfl⟩ := ownN_form hown (by simp [allN])
    clear hown hub hp1
    generalize hn3 : (allN a (ps.take k)).length = n3 at *
    have HN3 := Lib.hid hn3
    clear hn3
    by_cases hlt : k < ps.length
    · have hat : ps[k]? = some ps[k] := List.getElem?_eq_getElem hlt
      have hfit := HF.out _ (List.getElem_mem hlt)
      have HMS := Lib.hid (manys_succ hat)
      have HDS := Lib.hid (deepsP_succ hat)
      generalize ps[k] = p at *
      obtain ⟨A', c', hv', _, hr'⟩ := HR.out.on hbel
      obtain ⟨rfl, rfl⟩ : A = A' ∧ c = c' := by simp only [Value.slice.injEq] at hv'; exact ⟨hv'.1, hv'.2.2⟩
      obtain ⟨g, u', rfl, hg, x0, x1, x2, hlies⟩ := hr' k p hat
      have HAT := Lib.hid hat
      have HFIT := Lib.hid hfit
      obtain ⟨f1, f2, f3⟩ := hfit
      clear hr' hv' hbel hat
      obtain ⟨q0, q1, q2, q3, q4, q5, q6⟩ := hp
      generalize hmk : manys (ps.take k) = mk at *
      generalize hdk : deepsP (ps.take k) = dk at *
      have HMK := Lib.hid hmk
      have HDK := Lib.hid hdk
      clear hmk hdk
      have E1 : Hid (Value.int .i64 (manys (ps.take (k + 1)) : Nat) = .int .i64 ((mk : Int) + (p.many : Int))) := Lib.hid (by rw [HMS.out]; congr 1)
      have E2 : Hid (Value.int .i64 (deepsP (ps.take (k + 1)) : Nat) = .int .i64 (max (dk : Int) ((p.deep : Int) + 1))) := Lib.hid (by rw [HDS.out]; congr 1; omega)
      have hk2 : k ≤ 2 := by omega
      rcases hlies with ⟨hrn, rfl | ⟨g2, o2, n2, c2, rfl⟩⟩
      · have hns : p.ns = [] := by have := hrn.len.1; exact List.length_eq_zero_iff.1 this.symm
        have HNS := Lib.hid hns
        clear hrn hns
        go_wp2_with (at_builtin; refine wpList_append_own_none rfl (.tmp 18) (.tmp 20) 29 rfl w.heap.size 33 i0 4 Tryz.underlying29 HZ.out.1 (.slice (some ⟨g3, 0, none⟩) n3 cap3) _ (cellsN (allN a (ps.take k))) rfl (HO.out.on ((Below.refl _ _).alloc (Nat.le_refl _) _)) rfl ?_)
        go_roundw
        case rel => exact ⟨k + 1, by omega, by go_num, (join_next HAT.out HFIT.out HP.out (by rw [HNS.out, List.append_nil]; exact HO.out) HU.out HP1.out HB.out (by rw [HMK.out]; exact HM.out) (by rw [HDK.out]; exact HD.out) (by rw [HN3.out]; exact HLE.out) E1.out E2.out).on ((Below.refl _ _).alloc (Nat.le_refl _) _)⟩
        case measure => simp [intOf]; omega
      · have hlen2 := hrn.len
        obtain ⟨hn2, _, _⟩ := hlen2
        have hnl : n2 ≤ 40 := by omega
        have HN2 := Lib.hid hn2
        have HRN := Lib.hid hrn
        clear hrn hn2
        go_wp2_with (at_builtin; refine wpList_append_own_at _ rfl (.tmp 18) (.tmp 20) 29 rfl w.heap.size 33 i0 (.agg #[.int .i64 0, .int .i64 0, .string ⟨#[]⟩, .int .i64 0]) 4 40 Tryz.underlying29 HZ.out.1 HZ.out.2.1 HZ.out.2.2.1 HZ.out.2.2.2 rfl (by decide) (.slice (some ⟨g3, 0, none⟩) n3 cap3) n3 (cellsN (allN a (ps.take k))) rfl ?cO ⟨g2, o2, none⟩ n2 c2 (cellsN p.ns) rfl ?c0 ?c1 ?c2 ?c3 ?c4 ?c5 ?_)
        case cO =>
          have ho := HO.out.on ((Below.refl _ _).alloc (Nat.le_refl _) (.cells #[.slice (some ⟨g2, o2, none⟩) n2 c2, .int .i64 p.many, .int .i64 p.deep] 166))
          unfold OwnN at ho
          rw [HN3.out] at ho
          exact ho
        case c0 => rw [cellsN_len, HN2.out]
        case c1 => exact read_news (HRN.out.on ((Below.refl _ _).alloc (Nat.le_refl _) _))
        case c2 => exact nod_one _
        case c3 => unfold maxLen; omega
        case c4 => omega
        case c5 => simp; omega
        intro v' w3 hown' hgrow _ hwhere
        have hl3 := (ownN_block HO.out g3 rfl).2
        have hu3 := HU.out g3 rfl
        have PA := (HP.out.on ((Below.refl _ _).alloc (Nat.le_refl _) (.cells #[.slice (some ⟨g2, o2, none⟩) n2 c2, .int .i64 p.many, .int .i64 p.deep] 166))).grown hgrow (by show some (w.heap.size + 3) ≠ some g3; simp; omega)
        have PB := (HP1.out.on ((Below.refl _ _).alloc (Nat.le_refl _) (.cells #[.slice (some ⟨g2, o2, none⟩) n2 c2, .int .i64 p.many, .int .i64 p.deep] 166))).grown hgrow (by show some (w.heap.size + 1) ≠ some g3; simp; omega)
        have PC := (pd_new wr (.slice (some ⟨g2, o2, none⟩) n2 c2) (.int .i64 p.many) (.int .i64 p.deep)).grown hgrow (by show some wr.heap.size ≠ some g3; simp; omega)
        have hOV : OwnN w3 w.heap.size v' (allN a (ps.take k) ++ p.ns) := by
          unfold OwnN; rw [cellsN_app, List.length_append, HN3.out, ← HN2.out]; exact hown'
        have hBV : Below w.heap.size w w3 := (HB.out.alloc hsz _).grown hgrow (by simp; omega) (fun b hb => by
          have : b = g3 := by simpa [Value.ownBlock] using hb.symm
          subst this; exact (ownN_block HO.out _ rfl).1)
        have hUV : ∀ b, v'.ownBlock = some b → b ≠ w.heap.size + 3 ∧ b ≠ w.heap.size + 1 := by
          intro b hb
          rcases hwhere with h | h
          · rw [h] at hb; exact HU.out b hb
          · rw [h] at hb
            have : b = wr.heap.size + 1 := by simpa using hb.symm
            have := HP.out.lt
            omega
        obtain ⟨g5, cap5, rfl⟩ := ownN_form hOV (by simp [allN])
        generalize hn5 : (allN a (ps.take k) ++ p.ns).length = n5 at *
        have HN5 := Lib.hid hn5
        have HPA := Lib.hid PA
        have HPB := Lib.hid PB
        have HOV := Lib.hid hOV
        have HBV := Lib.hid hBV
        have HUV := Lib.hid hUV
        obtain ⟨q0', q1', q2', q3', q4', q5', q6'⟩ := PA
        obtain ⟨r0', r1', r2', r3', r4', r5', r6'⟩ := PC
        clear hOV hBV hUV hown' hgrow hwhere PB q0 q1 q2 q3 q4 q5 q6 x0 x1 x2 hn5 hu3 hl3
        have hne : ¬ wr.heap.size = w.heap.size + 3 := by have := HP.out.lt; omega
        go_wp2_with fail
        go_roundw
        case rel => exact ⟨k + 1, by omega, by go_num, join_next HAT.out HFIT.out HPA.out HOV.out HUV.out HPB.out HBV.out (by rw [HMK.out]; exact HM.out) (by rw [HDK.out]; exact HD.out) (by rw [HN3.out]; exact HLE.out) E1.out E2.out⟩
        case measure => simp [intOf]; omega
    · have hks : ps.take k = ps := List.take_of_length_le (by omega)
      rw [hks] at HP HO HM HD HN3 hp
      generalize hmk : manys ps = mk at *
      generalize hdk : deepsP ps = dk at *
      have HMK := Lib.hid hmk
      have HDK := Lib.hid hdk
      clear hks hmk hdk hm hd hlen hbel
      obtain ⟨q0, q1, q2, q3, q4, q5, q6⟩ := hp
      obtain ⟨r0, r1, r2, r3, r4, r5, r6⟩ := HP1.out
      by_cases h40 : mk ≤ 40
      · have HJ : Hid (joinP a ps = ⟨allN a ps, mk, dk⟩) := Lib.hid (by unfold joinP; rw [HMK.out, HDK.out, if_pos h40])
        have hi : ¬ (40 : Int) < (mk : Int) := by omega
        go_wp2_with fail
        refine bodyPost_ret (v := .agg #[.slice (some ⟨g3, 0, none⟩) n3 cap3, .int .i64 mk, .int .i64 dk]) (by simp [results, Tryz.results149, go_sem, *]) rfl ?_
        rw [HJ.out]
        refine ⟨_, rfl, HO.out.away (g := w.heap.size + 1) (fun b hb => (HU.out b hb).2) ?_, ?_⟩
        · exact (((Keeps.refl _ _).set).set).set
        · exact ((HB.out.setCell (by show _ ≤ _ + 1; omega) _).setCell (by show _ ≤ _ + 1; omega) _).setCell (by show _ ≤ _ + 1; omega) _
      · have HJ : Hid (joinP a ps = ⟨[], mk, dk⟩) := Lib.hid (by unfold joinP; rw [HMK.out, HDK.out, if_neg h40])
        have hi : (40 : Int) < (mk : Int) := by omega
        go_wp2_with fail
        refine bodyPost_ret (v := .agg #[.slice none 0 0, .int .i64 mk, .int .i64 dk]) (by simp [results, Tryz.results149, go_sem, *]) rfl ?_
        rw [HJ.out]
        refine ⟨_, rfl, ownN_nil _ _, ?_⟩
        exact (((HB.out.setCell (by show _ ≤ _ + 3; omega) _).setCell (by show _ ≤ _ + 1; omega) _).setCell (by show _ ≤ _ + 1; omega) _).setCell (by show _ ≤ _ + 1; omega) _
end Go.Proofs.YtpeohfgadnfnpaaGreatDoor
