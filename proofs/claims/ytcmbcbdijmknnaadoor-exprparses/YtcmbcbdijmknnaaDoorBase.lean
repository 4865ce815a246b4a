/-
  DERIVED. Layer 3: slices of tokens: those of a call that made them, those that are read.
-/
import Derived.Test.YtcmbcbdijmknnaaDoorRow
import Derived.WalkMore
import Derived.Deep.Cut
import Derived.Deep.QuietTactic
import Derived.BigQuiet
namespace Go.Proofs.YtcmbcbdijmknnaaDoor
open Go.RowKit

theorem below_then {w w1 w2 : World} (h : Below w.heap.size w w1) (k : Below w1.heap.size w1 w2) : Below w.heap.size w w2 := h.trans (k.mono h.size)
/-- What a callee that turns no old block leaves of its caller's boxes: their cells, and that they may be written. -/
theorem boxes_stay {W w1 : World} (hb : Below W.heap.size W w1) : (∀ b o, b < W.heap.size → w1.cell? ⟨b, o, none⟩ = W.cell? ⟨b, o, none⟩) ∧ (∀ b o, b < W.heap.size → w1.frozen? ⟨b, o, none⟩ = W.frozen? ⟨b, o, none⟩) := by
  constructor
  · intro b o h
    have e : ({ block := b, off := o, spot := none } : Addr).block < W.heap.size := h
    exact hb.cell e
  · intro b o h
    have e : ({ block := b, off := o, spot := none } : Addr).block < W.heap.size := h
    exact hb.frozen e
theorem below_box {w w1 : World} {o : Obj} (hb : Below (w.alloc o).heap.size (w.alloc o) w1) : Below w.heap.size w w1 :=
  ((Below.refl _ _).alloc (Nat.le_refl _) o).trans (hb.mono (by simp))
theorem below_box4 {w w1 : World} {o : Obj} (hb : Below (w.alloc o).heap.size (w.alloc o) w1) (x0 x1 x2 x3 : Value) :
    Below w.heap.size w ((((w1.setCell ⟨w.heap.size, 0, none⟩ x0).setCell ⟨w.heap.size, 1, none⟩ x1).setCell ⟨w.heap.size, 2, none⟩ x2).setCell ⟨w.heap.size, 3, none⟩ x3) :=
  ((((below_box hb).setCell (Nat.le_refl _) _).setCell (Nat.le_refl _) _).setCell (Nat.le_refl _) _).setCell (Nat.le_refl _) _
theorem below_set4 {w w1 : World} (hb : Below w.heap.size w w1) {g : Nat} (hg : w.heap.size ≤ g) (x0 x1 x2 x3 : Value) :
    Below w.heap.size w ((((w1.setCell ⟨g, 0, none⟩ x0).setCell ⟨g, 1, none⟩ x1).setCell ⟨g, 2, none⟩ x2).setCell ⟨g, 3, none⟩ x3) :=
  (((hb.setCell hg _).setCell hg _).setCell hg _).setCell hg _

/-- The cells of a token, of tokens. -/
def tokCells (t : Tok) : List Value := [.int .i64 t.kind, .string ⟨t.text.toArray⟩, .int .i64 t.n, .int .i64 t.pl]
def cellsT (L : List Tok) : List Value := L.flatMap tokCells
theorem cellsT_snoc (L : List Tok) (t : Tok) : cellsT (L ++ [t]) = cellsT L ++ tokCells t := by simp [cellsT]
/-- A slice that the call made itself, and that holds just these tokens. -/
def OwnT (w : World) (B : Nat) (v : Value) (L : List Tok) : Prop := w.ownsRow B 34 4 v L.length (cellsT L)
/-- What a call comes back with that answers tokens, an error and a place. -/
def GivesF (f : Found) (w : World) (e : Ending) (w' : World) : Prop :=
  ∃ v, e = .returned (.tuple #[v, .int .i64 f.err, .int .i64 f.pl]) ∧ OwnT w' w.heap.size v f.toks ∧ Below w.heap.size w w'

theorem info31 : (Tryd.prog.info? 34).map (fun i => (i.zero, i.size, i.bytes)) = some (some (.agg #[.int .i64 0, .string ⟨#[]⟩, .int .i64 0, .int .i64 0]), 4, 40) := by kernel_rfl

theorem own_on {w w' : World} {B : Nat} {v : Value} {L : List Tok} (h : OwnT w B v L) (hb : Below w.heap.size w w') : OwnT w' B v L := by
  obtain ⟨h1, h2⟩ := h
  refine ⟨h1, ?_⟩
  rcases h2 with h2 | ⟨g, cap, cur, hv, hg, hh, r⟩
  · exact .inl h2
  · exact .inr ⟨g, cap, cur, hv, hg, (hb.block g (Array.getElem?_eq_some_iff.1 hh).1).trans hh, r⟩

/-! What a round does to what is still to be found. -/
theorem inv_blank {l : List UInt8} {k : Nat} {c : UInt8} {L : List Tok} {R : Found} (hd : l.drop k = c :: l.drop (k + 1)) (hb : blkB c = true) (hI : (scanL (l.drop k) k).pre L = R) : (scanL (l.drop (k + 1)) (k + 1)).pre L = R := by
  rw [hd, scanL_blank _ _ hb] at hI; exact hI
theorem inv_rem {l : List UInt8} {k : Nat} {c : UInt8} {L : List Tok} {R : Found} (hd : l.drop k = c :: l.drop (k + 1)) (hb : blkB c = false) (hr : isRem (l.drop k) = true) (hI : (scanL (l.drop k) k).pre L = R) :
    (scanL (l.drop (k + ((l.drop k).takeWhile linB).length)) (k + ((l.drop k).takeWhile linB).length)).pre L = R := by
  rw [← List.drop_drop]
  rw [hd] at *
  rw [scanL_rem _ _ hb hr] at hI; exact hI
theorem inv_tok {l : List UInt8} {k : Nat} {c : UInt8} {L : List Tok} {R : Found} (hd : l.drop k = c :: l.drop (k + 1)) (hb : blkB c = false) (hr : isRem (l.drop k) = false) (he : (cutOf (l.drop k)).err = 0) (hI : (scanL (l.drop k) k).pre L = R) :
    (scanL (l.drop (k + (cutOf (l.drop k)).text.length)) (k + (cutOf (l.drop k)).text.length)).pre (L ++ [⟨(cutOf (l.drop k)).kind, (cutOf (l.drop k)).text, (cutOf (l.drop k)).n, k⟩]) = R := by
  rw [← List.drop_drop]
  rw [hd] at *
  rw [scanL_tok _ _ hb hr he, pre_pre] at hI; exact hI
theorem inv_bad {l : List UInt8} {k : Nat} {c : UInt8} {L : List Tok} {R : Found} (hd : l.drop k = c :: l.drop (k + 1)) (hb : blkB c = false) (hr : isRem (l.drop k) = false) (he : (cutOf (l.drop k)).err ≠ 0) (hI : (scanL (l.drop k) k).pre L = R) :
    R = .fail (cutOf (l.drop k)).err k := by
  rw [hd] at *
  rw [scanL_bad _ _ hb hr he, pre_fail _ _ _ he] at hI; exact hI.symm
theorem inv_end {l : List UInt8} {k : Nat} {L : List Tok} {R : Found} (hd : l.length ≤ k) (hI : (scanL (l.drop k) k).pre L = R) : R = .fine L := by
  rw [List.drop_eq_nil_of_le hd, scanL_nil, pre_fine] at hI; simpa using hI.symm
theorem while_le (p : UInt8 → Bool) (l : List UInt8) : (l.takeWhile p).length ≤ l.length := (List.takeWhile_sublist p).length_le
/-- What is left of a text at a place. -/
theorem rest_at (s : ByteArray) (k : Nat) (h : k < s.size) : (s.extract k s.size).size = s.size - k ∧ ∃ h0 : 0 < (s.extract k s.size).size, (s.extract k s.size)[0] = s[k] := by
  have h1 : (s.extract k s.size).size = s.size - k := by simp
  refine ⟨h1, by omega, ?_⟩
  have := ByteArray.getElem_extract (b := s) (start := k) (stop := s.size) (i := 0) (by rw [h1]; omega)
  simpa using this
/-- A box of four cells that has been filled, and its last cell once more. -/
def boxW (w1 : World) (g : Nat) (a b c d e : Value) : World :=
  ((((w1.setCell ⟨g, 0, none⟩ a).setCell ⟨g, 1, none⟩ b).setCell ⟨g, 2, none⟩ c).setCell ⟨g, 3, none⟩ d).setCell ⟨g, 3, none⟩ e
theorem boxW_facts {wr w1 : World} {z0 z1 z2 z3 : Value} (hb : Below (wr.alloc (.cells #[z0, z1, z2, z3] 34)).heap.size (wr.alloc (.cells #[z0, z1, z2, z3] 34)) w1) (a b c d e : Value) :
    (boxW w1 wr.heap.size a b c d e).cell? ⟨wr.heap.size, 0, none⟩ = some a ∧ (boxW w1 wr.heap.size a b c d e).cell? ⟨wr.heap.size, 1, none⟩ = some b ∧ (boxW w1 wr.heap.size a b c d e).cell? ⟨wr.heap.size, 2, none⟩ = some c ∧
    (boxW w1 wr.heap.size a b c d e).cell? ⟨wr.heap.size, 3, none⟩ = some e ∧ Below wr.heap.size wr (boxW w1 wr.heap.size a b c d e) ∧ wr.heap.size < (boxW w1 wr.heap.size a b c d e).heap.size := by
  obtain ⟨hc, hf⟩ := boxes_stay hb
  have hz3 : wr.heap.size < w1.heap.size := by have := hb.size; simp at this; omega
  have d0 := hc wr.heap.size 0 (by simp)
  have d1 := hc wr.heap.size 1 (by simp)
  have d2 := hc wr.heap.size 2 (by simp)
  have d3 := hc wr.heap.size 3 (by simp)
  unfold boxW
  refine ⟨by simp [go_sem, d0], by simp [go_sem, d1], by simp [go_sem, d2], World.cell?_setCell_same (u := d) _ _ _ (by simp [go_sem, d3]), (below_set4 (below_box hb) (Nat.le_refl _) _ _ _ _).setCell (Nat.le_refl _) _, by simp only [World.setCell, Array.size_modify]; exact hz3⟩
theorem own_block {w : World} {B : Nat} {v : Value} {L : List Tok} (h : OwnT w B v L) : ∀ g, v.ownBlock = some g → B ≤ g ∧ g < w.heap.size := by
  intro g hg
  rcases h.2 with ⟨rfl, _⟩ | ⟨g', cap, cur, rfl, hB, hh, _⟩
  · simp [Value.ownBlock] at hg
  · simp [Value.ownBlock] at hg
    subst hg
    exact ⟨hB, (Array.getElem?_eq_some_iff.1 hh).1⟩
/-- Behind an append of one token. -/
theorem after_append {w wr W2 w3 : World} {v v' : Value} {L : List Tok} {t : Tok} {o : Obj} (hO : OwnT wr w.heap.size v L) (hB : Below w.heap.size w wr) (hBW : Below wr.heap.size wr W2) (hsz : wr.heap.size < W2.heap.size)
    (hown' : w3.ownsRow w.heap.size 34 4 v' (L.length + 1) (cellsT L ++ tokCells t)) (hg : (W2.alloc o).grownBy w3 v.ownBlock) :
    OwnT w3 w.heap.size v' (L ++ [t]) ∧ Below w.heap.size w w3 ∧ (∀ j u, W2.cell? ⟨wr.heap.size, j, none⟩ = some u → w3.cell? ⟨wr.heap.size, j, none⟩ = some u) := by
  have hz := hB.size
  refine ⟨?_, ?_, fun j u hu => ?_⟩
  · unfold OwnT
    rw [cellsT_snoc, List.length_append]; exact hown'
  · exact ((hB.trans (hBW.mono hz)).alloc (by have := hBW.size; omega) o).grown hg (by simp; have := hBW.size; omega) (fun k hk => (own_block hO k hk).1)
  · have h1 : (W2.alloc o).cell? ⟨wr.heap.size, j, none⟩ = some u := by
      rw [World.cell?_alloc_lt W2 o _ (by exact hsz)]; exact hu
    rw [← h1]
    exact World.cell?_of_block (hg.block _ (by simp; omega) (fun e => by have := (own_block hO _ e.symm).2; simp at this))
theorem tok_cells {W2 : World} (t : Tok) : ∀ j u, (tokCells t)[j]? = some u → (W2.alloc (.cells #[.int .i64 t.kind, .string ⟨t.text.toArray⟩, .int .i64 t.n, .int .i64 t.pl] 34)).cell? ((⟨W2.heap.size, 0, none⟩ : Addr).add j) = some u := by
  intro j u hu
  match j, hu with
  | 0, hu => simp [tokCells] at hu; subst hu; simp [Addr.add]
  | 1, hu => simp [tokCells] at hu; subst hu; simp [Addr.add]
  | 2, hu => simp [tokCells] at hu; subst hu; simp [Addr.add]
  | 3, hu => simp [tokCells] at hu; subst hu; simp [Addr.add]
  | n + 4, hu => simp [tokCells] at hu
theorem tok_one (t : Tok) : ∀ u ∈ tokCells t, u.oneCell' = true := by
  intro u hu
  simp [tokCells] at hu
  rcases hu with rfl | rfl | rfl | rfl <;> rfl
theorem givesF_of {f f' : Found} {w w' : World} {e : Ending} {v : Value} (he : e = .returned (.tuple #[v, .int .i64 f'.err, .int .i64 f'.pl])) (h : f = f') (ho : OwnT w' w.heap.size v f'.toks) (hb : Below w.heap.size w w') : GivesF f w e w' := by
  subst h; exact ⟨v, he, ho, hb⟩
theorem own_nil (w : World) (B : Nat) : OwnT w B (.slice none 0 0) [] := World.ownsRow_nil _ _ _ _


/-- A slice that reads as these tokens, and lies in old memory. -/
def ReadT (w : World) (v : Value) (L : List Tok) : Prop :=
  ∃ A c, v = .slice A L.length c ∧ L.length ≤ c ∧ (∀ i t, L[i]? = some t → ∃ g, A = some ⟨g, 0, none⟩ ∧ g < w.heap.size ∧
    w.cell? ⟨g, i * 4, none⟩ = some (.int .i64 t.kind) ∧ w.cell? ⟨g, i * 4 + 1, none⟩ = some (.string ⟨t.text.toArray⟩) ∧ w.cell? ⟨g, i * 4 + 2, none⟩ = some (.int .i64 t.n) ∧ w.cell? ⟨g, i * 4 + 3, none⟩ = some (.int .i64 t.pl))
theorem cellsT_len (L : List Tok) : (cellsT L).length = 4 * L.length := by
  induction L with
  | nil => rfl
  | cons t L ih => unfold cellsT at *; rw [List.flatMap_cons, List.length_append, ih]; simp [tokCells]; omega
theorem cellsT_at : ∀ (L : List Tok) (i : Nat) (t : Tok) (j : Nat) (u : Value), L[i]? = some t → (tokCells t)[j]? = some u → (cellsT L)[i * 4 + j]? = some u
  | [], i, t, j, u, h, _ => by simp at h
  | a :: L, 0, t, j, u, h, hj => by
    simp at h; subst h
    unfold cellsT
    rw [List.flatMap_cons, List.getElem?_append_left (by have := (List.getElem?_eq_some_iff.1 hj).1; omega)]
    simpa using hj
  | a :: L, i + 1, t, j, u, h, hj => by
    have ih := cellsT_at L i t j u (by simpa using h) hj
    unfold cellsT at *
    rw [List.flatMap_cons, List.getElem?_append_right (by simp [tokCells]; omega)]
    rw [← ih]; congr 1; simp [tokCells]; omega
theorem OwnT.read {w : World} {B : Nat} {v : Value} {L : List Tok} (h : OwnT w B v L) : ReadT w v L := by
  rcases h.2 with ⟨rfl, h0⟩ | ⟨g, cap, cur, rfl, hB, hh, hn, hm, hs, hc⟩
  · have : L = [] := List.length_eq_zero_iff.1 h0
    subst this
    exact ⟨none, 0, rfl, Nat.le_refl _, fun i t h => by simp at h⟩
  · refine ⟨_, cap, rfl, hn, fun i t hi => ⟨g, rfl, (Array.getElem?_eq_some_iff.1 hh).1, ?_⟩⟩
    have key : ∀ j u, (tokCells t)[j]? = some u → w.cell? ⟨g, i * 4 + j, none⟩ = some u := by
      intro j u hj
      have h1 := cellsT_at L i t j u hi hj
      have hlt := (List.getElem?_eq_some_iff.1 h1).1
      rw [cellsT_len] at hlt
      rw [cell_of_row w g _ cur 34 (0, 0) hh]
      rw [← hc, List.getElem?_take, if_pos (by omega)] at h1
      simpa using h1
    exact ⟨key 0 _ rfl, key 1 _ rfl, key 2 _ rfl, key 3 _ rfl⟩
theorem ReadT.on {w w' : World} {v : Value} {L : List Tok} (h : ReadT w v L) (hb : Below w.heap.size w w') : ReadT w' v L := by
  obtain ⟨A, c, hv, hc, hr⟩ := h
  refine ⟨A, c, hv, hc, fun i t hi => ?_⟩
  obtain ⟨g, hA, hg, h0, h1, h2, h3⟩ := hr i t hi
  have e : ∀ j, w'.cell? ⟨g, j, none⟩ = w.cell? ⟨g, j, none⟩ := fun j => hb.cell (p := ⟨g, j, none⟩) hg
  exact ⟨g, hA, Nat.lt_of_lt_of_le hg hb.size, by rw [e]; exact h0, by rw [e]; exact h1, by rw [e]; exact h2, by rw [e]; exact h3⟩

theorem below_drew1 (w : World) (n : Nat) : Below w.heap.size w (w.drewN n) := ⟨rfl, rfl, rfl, Nat.le_refl _, fun _ _ => rfl⟩
theorem drews (w : World) (n m : Nat) : (w.drewN n).drewN m = w.drewN (n + m) := World.drewN_drewN _ _ _
theorem below_drews (w : World) (n m : Nat) : Below w.heap.size w ((w.drewN n).drewN m) := by rw [drews]; exact below_drew1 _ _
end Go.Proofs.YtcmbcbdijmknnaaDoor
