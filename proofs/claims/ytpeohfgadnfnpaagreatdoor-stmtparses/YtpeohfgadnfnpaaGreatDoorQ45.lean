/-
  DERIVED. Layer 4: the contract of the document's reader's plain (leadlineref04): a statement without its blocks.
-/
import Derived.Test.YtpeohfgadnfnpaaGreatDoorQ44
namespace Go.Proofs.YtpeohfgadnfnpaaGreatDoor
open Go.RowKit

theorem plain_1 (L : List Tok) (k : Nat) (pl : Int) (i : Nat) {a0 : List UInt8} {a2 : List Nod} (hk : k = 1) (h0 : ((RS.ok () i : RS Unit).bind fun _ i => nameP L i).got a0) (h2 : ((((RS.ok () i : RS Unit).bind fun _ i => nameP L i).unit.bind fun _ i => mustP L i [61]).bind fun _ i => exprP L i).got a2) : (plainP L k pl i).unit = ((((RS.ok () i : RS Unit).bind fun _ i => nameP L i).unit.bind fun _ i => mustP L i [61]).bind fun _ i => exprP L i).unit ∧ (plainP L k pl i).got ({ stm0 k pl with reg := a0, e := a2 }) := by
  unfold plainP
  rw [if_pos hk]
  simp only [RS.bind_ok] at *
  cases q0 : nameP L i with
  | bad e p => simp only [q0, RS.bind_bad, RS.unit_bad] at *; first | exact ⟨rfl, trivial⟩ | exact ⟨trivial, trivial⟩
  | ok x0 j0 =>
    simp only [q0, RS.bind_ok, RS.unit_ok] at *
    obtain rfl : a0 = x0 := h0
    cases q1 : mustP L j0 [61] with
    | bad e p => simp only [q1, RS.bind_bad, RS.unit_bad] at *; first | exact ⟨rfl, trivial⟩ | exact ⟨trivial, trivial⟩
    | ok x1 j1 =>
      simp only [q1, RS.bind_ok] at *
      cases q2 : exprP L j1 with
      | bad e p => simp only [q2, RS.bind_bad, RS.unit_bad] at *; first | exact ⟨rfl, trivial⟩ | exact ⟨trivial, trivial⟩
      | ok x2 j2 =>
        simp only [q2, RS.bind_ok, RS.unit_ok] at *
        obtain rfl : a2 = x2 := h2
        first | exact ⟨rfl, rfl⟩ | exact ⟨trivial, rfl⟩
theorem plain_2 (L : List Tok) (k : Nat) (pl : Int) (i : Nat) {a0 : List UInt8} {a2 : List UInt8} (hk : k = 2) (h0 : ((RS.ok () i : RS Unit).bind fun _ i => nameP L i).got a0) (h2 : ((((RS.ok () i : RS Unit).bind fun _ i => nameP L i).unit.bind fun _ i => mustP L i [61]).bind fun _ i => nameP L i).got a2) : (plainP L k pl i).unit = ((((RS.ok () i : RS Unit).bind fun _ i => nameP L i).unit.bind fun _ i => mustP L i [61]).bind fun _ i => nameP L i).unit ∧ (plainP L k pl i).got ({ stm0 k pl with reg := a0, name := a2 }) := by
  unfold plainP
  rw [if_neg (by omega), if_pos hk]
  simp only [RS.bind_ok] at *
  cases q0 : nameP L i with
  | bad e p => simp only [q0, RS.bind_bad, RS.unit_bad] at *; first | exact ⟨rfl, trivial⟩ | exact ⟨trivial, trivial⟩
  | ok x0 j0 =>
    simp only [q0, RS.bind_ok, RS.unit_ok] at *
    obtain rfl : a0 = x0 := h0
    cases q1 : mustP L j0 [61] with
    | bad e p => simp only [q1, RS.bind_bad, RS.unit_bad] at *; first | exact ⟨rfl, trivial⟩ | exact ⟨trivial, trivial⟩
    | ok x1 j1 =>
      simp only [q1, RS.bind_ok] at *
      cases q2 : nameP L j1 with
      | bad e p => simp only [q2, RS.bind_bad, RS.unit_bad] at *; first | exact ⟨rfl, trivial⟩ | exact ⟨trivial, trivial⟩
      | ok x2 j2 =>
        simp only [q2, RS.bind_ok, RS.unit_ok] at *
        obtain rfl : a2 = x2 := h2
        first | exact ⟨rfl, rfl⟩ | exact ⟨trivial, rfl⟩
theorem plain_3 (L : List Tok) (k : Nat) (pl : Int) (i : Nat) {a0 : List UInt8} {a2 : List Nod} (hk : k = 3) (h0 : ((RS.ok () i : RS Unit).bind fun _ i => nameP L i).got a0) (h2 : ((((RS.ok () i : RS Unit).bind fun _ i => nameP L i).unit.bind fun _ i => mustP L i [61]).bind fun _ i => exprP L i).got a2) : (plainP L k pl i).unit = ((((RS.ok () i : RS Unit).bind fun _ i => nameP L i).unit.bind fun _ i => mustP L i [61]).bind fun _ i => exprP L i).unit ∧ (plainP L k pl i).got ({ stm0 k pl with name := a0, e := a2 }) := by
  unfold plainP
  rw [if_neg (by omega), if_neg (by omega), if_pos hk]
  simp only [RS.bind_ok] at *
  cases q0 : nameP L i with
  | bad e p => simp only [q0, RS.bind_bad, RS.unit_bad] at *; first | exact ⟨rfl, trivial⟩ | exact ⟨trivial, trivial⟩
  | ok x0 j0 =>
    simp only [q0, RS.bind_ok, RS.unit_ok] at *
    obtain rfl : a0 = x0 := h0
    cases q1 : mustP L j0 [61] with
    | bad e p => simp only [q1, RS.bind_bad, RS.unit_bad] at *; first | exact ⟨rfl, trivial⟩ | exact ⟨trivial, trivial⟩
    | ok x1 j1 =>
      simp only [q1, RS.bind_ok] at *
      cases q2 : exprP L j1 with
      | bad e p => simp only [q2, RS.bind_bad, RS.unit_bad] at *; first | exact ⟨rfl, trivial⟩ | exact ⟨trivial, trivial⟩
      | ok x2 j2 =>
        simp only [q2, RS.bind_ok, RS.unit_ok] at *
        obtain rfl : a2 = x2 := h2
        first | exact ⟨rfl, rfl⟩ | exact ⟨trivial, rfl⟩
theorem plain_4 (L : List Tok) (k : Nat) (pl : Int) (i : Nat) {a0 : List UInt8} {a2 : List UInt8} {a4 : List Nod} {a6 : List Nod} (hk : k = 4) (h0 : ((RS.ok () i : RS Unit).bind fun _ i => nameP L i).got a0) (h2 : ((((RS.ok () i : RS Unit).bind fun _ i => nameP L i).unit.bind fun _ i => mustP L i [61]).bind fun _ i => nameP L i).got a2) (h4 : ((((((RS.ok () i : RS Unit).bind fun _ i => nameP L i).unit.bind fun _ i => mustP L i [61]).bind fun _ i => nameP L i).unit.bind fun _ i => mustP L i [44]).bind fun _ i => exprP L i).got a4) (h6 : ((((((((RS.ok () i : RS Unit).bind fun _ i => nameP L i).unit.bind fun _ i => mustP L i [61]).bind fun _ i => nameP L i).unit.bind fun _ i => mustP L i [44]).bind fun _ i => exprP L i).unit.bind fun _ i => mustP L i [44]).bind fun _ i => exprP L i).got a6) : (plainP L k pl i).unit = ((((((((RS.ok () i : RS Unit).bind fun _ i => nameP L i).unit.bind fun _ i => mustP L i [61]).bind fun _ i => nameP L i).unit.bind fun _ i => mustP L i [44]).bind fun _ i => exprP L i).unit.bind fun _ i => mustP L i [44]).bind fun _ i => exprP L i).unit ∧ (plainP L k pl i).got ({ stm0 k pl with reg := a0, name := a2, e := a4, f := a6 }) := by
  unfold plainP
  rw [if_neg (by omega), if_neg (by omega), if_neg (by omega), if_pos hk]
  simp only [RS.bind_ok] at *
  cases q0 : nameP L i with
  | bad e p => simp only [q0, RS.bind_bad, RS.unit_bad] at *; first | exact ⟨rfl, trivial⟩ | exact ⟨trivial, trivial⟩
  | ok x0 j0 =>
    simp only [q0, RS.bind_ok, RS.unit_ok] at *
    obtain rfl : a0 = x0 := h0
    cases q1 : mustP L j0 [61] with
    | bad e p => simp only [q1, RS.bind_bad, RS.unit_bad] at *; first | exact ⟨rfl, trivial⟩ | exact ⟨trivial, trivial⟩
    | ok x1 j1 =>
      simp only [q1, RS.bind_ok] at *
      cases q2 : nameP L j1 with
      | bad e p => simp only [q2, RS.bind_bad, RS.unit_bad] at *; first | exact ⟨rfl, trivial⟩ | exact ⟨trivial, trivial⟩
      | ok x2 j2 =>
        simp only [q2, RS.bind_ok, RS.unit_ok] at *
        obtain rfl : a2 = x2 := h2
        cases q3 : mustP L j2 [44] with
        | bad e p => simp only [q3, RS.bind_bad, RS.unit_bad] at *; first | exact ⟨rfl, trivial⟩ | exact ⟨trivial, trivial⟩
        | ok x3 j3 =>
          simp only [q3, RS.bind_ok] at *
          cases q4 : exprP L j3 with
          | bad e p => simp only [q4, RS.bind_bad, RS.unit_bad] at *; first | exact ⟨rfl, trivial⟩ | exact ⟨trivial, trivial⟩
          | ok x4 j4 =>
            simp only [q4, RS.bind_ok, RS.unit_ok] at *
            obtain rfl : a4 = x4 := h4
            cases q5 : mustP L j4 [44] with
            | bad e p => simp only [q5, RS.bind_bad, RS.unit_bad] at *; first | exact ⟨rfl, trivial⟩ | exact ⟨trivial, trivial⟩
            | ok x5 j5 =>
              simp only [q5, RS.bind_ok] at *
              cases q6 : exprP L j5 with
              | bad e p => simp only [q6, RS.bind_bad, RS.unit_bad] at *; first | exact ⟨rfl, trivial⟩ | exact ⟨trivial, trivial⟩
              | ok x6 j6 =>
                simp only [q6, RS.bind_ok, RS.unit_ok] at *
                obtain rfl : a6 = x6 := h6
                first | exact ⟨rfl, rfl⟩ | exact ⟨trivial, rfl⟩
theorem plain_n (L : List Tok) (k : Nat) (pl : Int) (i : Nat) {a0 : List UInt8} (hk : k = 5 ∨ k = 6 ∨ k = 9 ∨ k = 10) (h0 : ((RS.ok () i : RS Unit).bind fun _ i => nameP L i).got a0) : (plainP L k pl i).unit = ((RS.ok () i : RS Unit).bind fun _ i => nameP L i).unit ∧ (plainP L k pl i).got ({ stm0 k pl with name := a0 }) := by
  unfold plainP
  rw [if_neg (by omega), if_neg (by omega), if_neg (by omega), if_neg (by omega), if_pos hk]
  simp only [RS.bind_ok] at *
  cases q0 : nameP L i with
  | bad e p => simp only [q0, RS.bind_bad, RS.unit_bad] at *; first | exact ⟨rfl, trivial⟩ | exact ⟨trivial, trivial⟩
  | ok x0 j0 =>
    simp only [q0, RS.bind_ok, RS.unit_ok] at *
    obtain rfl : a0 = x0 := h0
    first | exact ⟨rfl, rfl⟩ | exact ⟨trivial, rfl⟩
theorem plain_e (L : List Tok) (k : Nat) (pl : Int) (i : Nat) {a0 : List Nod} (hk : k = 11 ∨ k = 14) (h0 : ((RS.ok () i : RS Unit).bind fun _ i => exprP L i).got a0) : (plainP L k pl i).unit = ((RS.ok () i : RS Unit).bind fun _ i => exprP L i).unit ∧ (plainP L k pl i).got ({ stm0 k pl with e := a0 }) := by
  unfold plainP
  rw [if_neg (by omega), if_neg (by omega), if_neg (by omega), if_neg (by omega), if_neg (by omega), if_pos hk]
  simp only [RS.bind_ok] at *
  cases q0 : exprP L i with
  | bad e p => simp only [q0, RS.bind_bad, RS.unit_bad] at *; first | exact ⟨rfl, trivial⟩ | exact ⟨trivial, trivial⟩
  | ok x0 j0 =>
    simp only [q0, RS.bind_ok, RS.unit_ok] at *
    obtain rfl : a0 = x0 := h0
    first | exact ⟨rfl, rfl⟩ | exact ⟨trivial, rfl⟩
theorem plain_t (L : List Tok) (k : Nat) (pl : Int) (i : Nat) {a0 : Int} (hk : k = 12) (h0 : ((RS.ok () i : RS Unit).bind fun _ i => timesP L i).got a0) : (plainP L k pl i).unit = ((RS.ok () i : RS Unit).bind fun _ i => timesP L i).unit ∧ (plainP L k pl i).got ({ stm0 k pl with n := a0 }) := by
  unfold plainP
  rw [if_neg (by omega), if_neg (by omega), if_neg (by omega), if_neg (by omega), if_neg (by omega), if_neg (by omega), if_pos hk]
  simp only [RS.bind_ok] at *
  cases q0 : timesP L i with
  | bad e p => simp only [q0, RS.bind_bad, RS.unit_bad] at *; first | exact ⟨rfl, trivial⟩ | exact ⟨trivial, trivial⟩
  | ok x0 j0 =>
    simp only [q0, RS.bind_ok, RS.unit_ok] at *
    obtain rfl : a0 = x0 := h0
    first | exact ⟨rfl, rfl⟩ | exact ⟨trivial, rfl⟩
theorem plain_o (L : List Tok) (k : Nat) (pl : Int) (i : Nat)  (hk : k = 7 ∨ k = 8 ∨ k = 13)  : (plainP L k pl i).unit = (RS.ok () i : RS Unit) ∧ (plainP L k pl i).got (stm0 k pl) := by
  unfold plainP
  rw [if_neg (by omega), if_neg (by omega), if_neg (by omega), if_neg (by omega), if_neg (by omega), if_neg (by omega), if_neg (by omega)]
  first | exact ⟨rfl, rfl⟩ | exact ⟨trivial, rfl⟩

section
variable {L : List Tok} {W0 : World} {g : Nat} {lv : Value} {t : RS Unit} {K : List Sv} {kv : Value} {w w0 : World} {b6 b7 : Nat} {x : Sv}
def z9 : List Value := [.int .i64 0, .string ⟨#[]⟩, .string ⟨#[]⟩, .slice none 0 0, .slice none 0 0, .int .i64 0, .int .i64 0, .int .i64 0, .int .i64 0]
/-- The reader, the statement that is being read, and the cell of the result beside it. -/
structure Px (L : List Tok) (W0 : World) (g : Nat) (lv : Value) (t : RS Unit) (K : List Sv) (kv : Value) (w0 : World) (b6 b7 : Nat) (x : Sv) (w : World) : Prop where
  st : Sr L W0 g lv t K kv w
  r6 : w.heap[b6]? = some (.cells z9.toArray 31 (0, 0))
  blk : w.heap[b7]? = some (.cells (svCells x).toArray 31 (0, 0))
  re : ReadE W0.heap.size w x.vE x.s.e
  rf : ReadE W0.heap.size w x.vF x.s.f
  g0 : g < w0.heap.size
  k0 : ∀ q, kv.ownBlock = some q → q < w0.heap.size
  b60 : w0.heap.size ≤ b6
  b70 : w0.heap.size ≤ b7
  ne : b6 ≠ b7
  keep : KeepP (fun k => k = g) w0 w
theorem Sr.aside (h : Sr L W0 g lv t K kv w) {b : Nat} {cs : Array Value} (hb : w.heap[b]? = some (.cells cs 31 (0, 0))) (h1 : b ≠ g) (h2 : kv.ownBlock ≠ some b) (h3 : W0.heap.size ≤ b) {w' : World} (hk : KeepP (fun k => k = b) w w') : Sr L W0 g lv t K kv w' := by
  obtain ⟨i, er, pos, hc, hs⟩ := h.blk
  refine ⟨h.low.trans (hk.below (fun k hk e => by omega) h.low.size), h.gB, ⟨i, er, pos, by rw [hk.block g h.lt (fun e => h1 e.symm)]; exact hc, hs⟩, row_keep h.row hk (fun q hq e => h2 (by rw [hq, e])), fun x hx => ?_⟩
  obtain ⟨r1, r2⟩ := h.rds x hx
  have hn : ∀ q cs fr, w.heap[q]? = some (.cells cs 33 fr) → ¬ (q = b) := fun q cs fr hh e => by rw [e, hb] at hh; simp at hh
  exact ⟨r1.keep hk hn, r2.keep hk hn⟩
theorem Px.lt7 (h : Px L W0 g lv t K kv w0 b6 b7 x w) : b7 < w.heap.size := (Array.getElem?_eq_some_iff.1 h.blk).1
theorem Px.lt6 (h : Px L W0 g lv t K kv w0 b6 b7 x w) : b6 < w.heap.size := (Array.getElem?_eq_some_iff.1 h.r6).1
theorem Px.c7 (h : Px L W0 g lv t K kv w0 b6 b7 x w) {j : Nat} {v : Value} (hj : (svCells x).toArray[j]? = some v) : w.cell? ⟨b7, j, none⟩ = some v := by rw [Lib.cell_of_heap h.blk]; exact hj
theorem Px.f7 (h : Px L W0 g lv t K kv w0 b6 b7 x w) (j : Nat) : w.frozen? ⟨b7, j, none⟩ = false := Lib.frozen_of_heap h.blk j
/-- The reader has gone on. -/
theorem Px.turn (h : Px L W0 g lv t K kv w0 b6 b7 x w) {w' : World} {t' : RS Unit} (hs : Sr L W0 g lv t' K kv w') (hk : KeepP (fun k => k = g) w w') : Px L W0 g lv t' K kv w0 b6 b7 x w' := by
  have hg := h.g0
  have h6 := h.b60
  have h7 := h.b70
  have hn : ∀ q cs fr, w.heap[q]? = some (.cells cs 33 fr) → ¬ (q = g) := fun q cs fr hh e => h.st.mine_nodes q cs fr hh (.inl e)
  exact ⟨hs, by rw [hk.block b6 h.lt6 (by omega)]; exact h.r6, by rw [hk.block b7 h.lt7 (by omega)]; exact h.blk, h.re.keep hk hn, h.rf.keep hk hn, h.g0, h.k0, h.b60, h.b70, h.ne, h.keep.same hk⟩
/-- One of the statement's cells is written. -/
theorem Px.put (h : Px L W0 g lv t K kv w0 b6 b7 x w) {j : Nat} {v : Value} {y : Sv} (hy : (svCells x).toArray.setIfInBounds j v = (svCells y).toArray) (hE : ReadE W0.heap.size w y.vE y.s.e) (hF : ReadE W0.heap.size w y.vF y.s.f) : Px L W0 g lv t K kv w0 b6 b7 y (w.setCell ⟨b7, j, none⟩ v) := by
  have hg := h.g0
  have h7 := h.b70
  have hk : KeepP (fun k => k = b7) w (w.setCell ⟨b7, j, none⟩ v) := KeepP.set
  have hn : ∀ q cs fr, w.heap[q]? = some (.cells cs 33 fr) → ¬ (q = b7) := fun q cs fr hh e => by rw [e, h.blk] at hh; simp at hh
  have hl := h.st.low.size
  have hW : W0.heap.size ≤ b7 := by have := h.st.gB; omega
  refine ⟨h.st.aside h.blk (by omega) (fun e => by have := h.k0 _ e; omega) hW hk, by rw [hk.block b6 h.lt6 h.ne]; exact h.r6, by rw [set_blk h.blk, hy], hE.keep hk hn, hF.keep hk hn, h.g0, h.k0, h.b60, h.b70, h.ne, h.keep.trans hk (fun _ _ h => h) (fun k hk' e => by omega)⟩
theorem nine_set {w : World} {b : Nat} (h : w.heap[b]? = some (.cells z9.toArray 31 (0, 0))) (a0 a1 a2 a3 a4 a5 a6 a7 a8 : Value) : ((((((((w.setCell ⟨b, 0, none⟩ a0).setCell ⟨b, 1, none⟩ a1).setCell ⟨b, 2, none⟩ a2).setCell ⟨b, 3, none⟩ a3).setCell ⟨b, 4, none⟩ a4).setCell ⟨b, 5, none⟩ a5).setCell ⟨b, 6, none⟩ a6).setCell ⟨b, 7, none⟩ a7 |>.setCell ⟨b, 8, none⟩ a8).heap[b]? = some (.cells #[a0, a1, a2, a3, a4, a5, a6, a7, a8] 31 (0, 0)) := by
  rw [set_blk (set_blk (set_blk (set_blk (set_blk (set_blk (set_blk (set_blk (set_blk h))))))))]
  simp [z9]
/-- What plain comes back with. -/
def PlainPost (L : List Tok) (W0 : World) (g : Nat) (lv : Value) (r : RS Stm) (K : List Sv) (kv : Value) (w : World) (e : Ending) (w' : World) : Prop :=
  ∃ x : Sv, e = .returned (.agg (svCells x).toArray) ∧ ReadE W0.heap.size w' x.vE x.s.e ∧ ReadE W0.heap.size w' x.vF x.s.f ∧ r.got x.s ∧ Sr L W0 g lv r.unit K kv w' ∧ KeepP (fun k => k = g) w w'
theorem plain_begin (h : Sr L W0 g lv t K kv w) (kn pl : Int) : Px L W0 g lv t K kv w w.heap.size (w.heap.size + 1) (sv0 kn pl) ((w.alloc (.cells #[.int .i64 0, .string ⟨#[]⟩, .string ⟨#[]⟩, .slice none 0 0, .slice none 0 0, .int .i64 0, .int .i64 0, .int .i64 0, .int .i64 0] 31)).alloc (.cells #[.int .i64 kn, .string ⟨#[]⟩, .string ⟨#[]⟩, .slice none 0 0, .slice none 0 0, .int .i64 0, .int .i64 0, .int .i64 0, .int .i64 pl] 31)) := by
  have h1 := (Below.refl w.heap.size w).alloc (Nat.le_refl _) (.cells #[.int .i64 0, .string ⟨#[]⟩, .string ⟨#[]⟩, .slice none 0 0, .slice none 0 0, .int .i64 0, .int .i64 0, .int .i64 0, .int .i64 0] 31)
  have n1 := heap_alloc_new w (.cells #[.int .i64 0, .string ⟨#[]⟩, .string ⟨#[]⟩, .slice none 0 0, .slice none 0 0, .int .i64 0, .int .i64 0, .int .i64 0, .int .i64 0] 31)
  have hz : (w.alloc (.cells #[.int .i64 0, .string ⟨#[]⟩, .string ⟨#[]⟩, .slice none 0 0, .slice none 0 0, .int .i64 0, .int .i64 0, .int .i64 0, .int .i64 0] 31)).heap.size = w.heap.size + 1 := by simp
  generalize w.alloc (.cells #[.int .i64 0, .string ⟨#[]⟩, .string ⟨#[]⟩, .slice none 0 0, .slice none 0 0, .int .i64 0, .int .i64 0, .int .i64 0, .int .i64 0] 31) = X at *
  have h2 := (Below.refl X.heap.size X).alloc (Nat.le_refl _) (.cells #[.int .i64 kn, .string ⟨#[]⟩, .string ⟨#[]⟩, .slice none 0 0, .slice none 0 0, .int .i64 0, .int .i64 0, .int .i64 0, .int .i64 pl] 31)
  have n2 := heap_alloc_new X (.cells #[.int .i64 kn, .string ⟨#[]⟩, .string ⟨#[]⟩, .slice none 0 0, .slice none 0 0, .int .i64 0, .int .i64 0, .int .i64 0, .int .i64 pl] 31)
  rw [hz] at n2
  have hb := below_then h1 h2
  refine ⟨h.on hb, ?_, n2, readE_nil _ _, readE_nil _ _, h.lt, fun q hq => (h.own_ne q hq).2.1, Nat.le_refl _, by omega, by omega, KeepP.of hb⟩
  rw [h2.block _ (by omega)]
  exact n1
/-- A statement's nine cells. -/
abbrev NineD (w : World) (b : Nat) (s : Stm) (vE vF : Value) : Prop := Nine w b (.int .i64 s.kind) (.string ⟨s.reg.toArray⟩) (.string ⟨s.name.toArray⟩) vE vF (.int .i64 s.n) (.int .i64 s.body) (.int .i64 s.els) (.int .i64 s.pl)
theorem nine_of {x : Sv} {b : Nat} (h : w.heap[b]? = some (.cells (svCells x).toArray 31 (0, 0))) : NineD w b x.s x.vE x.vF :=
  ⟨(Array.getElem?_eq_some_iff.1 h).1, by rw [Lib.cell_of_heap h]; rfl, by rw [Lib.cell_of_heap h]; rfl, by rw [Lib.cell_of_heap h]; rfl, by rw [Lib.cell_of_heap h]; rfl, by rw [Lib.cell_of_heap h]; rfl, by rw [Lib.cell_of_heap h]; rfl, by rw [Lib.cell_of_heap h]; rfl, by rw [Lib.cell_of_heap h]; rfl, by rw [Lib.cell_of_heap h]; rfl⟩
/-- The statement is stored in the result's cell. -/
theorem Px.done (h : Px L W0 g lv t K kv w0 b6 b7 x w) {W : World} (hW : W = ((((((((w.setCell ⟨b6, 0, none⟩ (.int .i64 x.s.kind)).setCell ⟨b6, 1, none⟩ (.string ⟨x.s.reg.toArray⟩)).setCell ⟨b6, 2, none⟩ (.string ⟨x.s.name.toArray⟩)).setCell ⟨b6, 3, none⟩ x.vE).setCell ⟨b6, 4, none⟩ x.vF).setCell ⟨b6, 5, none⟩ (.int .i64 x.s.n)).setCell ⟨b6, 6, none⟩ (.int .i64 x.s.body)).setCell ⟨b6, 7, none⟩ (.int .i64 x.s.els)).setCell ⟨b6, 8, none⟩ (.int .i64 x.s.pl)) {r : RS Stm} (hr : r.unit = t) (hg : r.got x.s) :
    NineD W b6 x.s x.vE x.vF ∧ PlainPost L W0 g lv r K kv w0 (.returned (.agg (svCells x).toArray)) W := by
  have k1 : ∀ {u : World} {j : Nat} {v : Value}, KeepP (fun k => k = b6) w u → KeepP (fun k => k = b6) w (u.setCell ⟨b6, j, none⟩ v) := fun h => h.trans KeepP.set (fun _ _ h => h) (fun _ _ h => h)
  have hk : KeepP (fun k => k = b6) w W := by rw [hW]; exact k1 (k1 (k1 (k1 (k1 (k1 (k1 (k1 (k1 (KeepP.refl _ _)))))))))
  have hb : W.heap[b6]? = some (.cells (svCells x).toArray 31 (0, 0)) := by rw [hW]; exact nine_set h.r6 _ _ _ _ _ _ _ _ _
  have hn : ∀ q cs fr, w.heap[q]? = some (.cells cs 33 fr) → ¬ (q = b6) := fun q cs fr hh e => by rw [e, h.r6] at hh; simp at hh
  have h6 := h.b60
  have hg0 := h.g0
  have hW0 : W0.heap.size ≤ b6 := by have := h.st.gB; omega
  refine ⟨nine_of hb, x, rfl, h.re.keep hk hn, h.rf.keep hk hn, hg, by rw [hr]; exact h.st.aside h.r6 (by omega) (fun e => by have := h.k0 _ e; omega) hW0 hk, h.keep.trans hk (fun _ _ h => h) (fun k hk' e => by omega)⟩

set_option maxRecDepth 100000 in
set_option maxHeartbeats 16000000 in
theorem dplain_1 (hs : Src L W0 lv) {i : Nat} (h : Sr L W0 g lv (.ok () i) K kv w) (pl : Int) : Calls Tryz.prog 70 #[.pointer (some ⟨g, 0, none⟩), .int .i64 1, .int .i64 pl] w (PlainPost L W0 g lv (plainP L 1 pl i) K kv w) := by
  have HC := Lib.hid hs
  have PX := Lib.hid (plain_begin h 1 pl)
  clear h hs
  go_enter Tryz.func70, Tryz.ntmps70
  go_upto_region 2 with (fail)
  generalize (w.alloc (.cells #[.int .i64 0, .string ⟨#[]⟩, .string ⟨#[]⟩, .slice none 0 0, .slice none 0 0, .int .i64 0, .int .i64 0, .int .i64 0, .int .i64 0] 31)).alloc (.cells #[.int .i64 1, .string ⟨#[]⟩, .string ⟨#[]⟩, .slice none 0 0, .slice none 0 0, .int .i64 0, .int .i64 0, .int .i64 0, .int .i64 pl] 31) = W at *
  generalize w.heap.size + 1 = b7 at *
  generalize w.heap.size = b6 at *
  go_wp2_with fail
  refine (dname HC.out PX.out.st).mono ?_
  rintro e0 w0 ⟨a0, rfl, hg0, hs0, hk0⟩
  have G0 := Lib.hid hg0
  replace PX := Lib.hid (PX.out.turn hs0 hk0)
  clear hs0 hk0 hg0
  have l0 := PX.out.lt7
  have u0 : w0.cell? ⟨b7, 1, none⟩ = some (.string ⟨#[]⟩) := PX.out.c7 rfl
  have y0 := PX.out.f7 1
  go_wp2_with fail
  replace PX := Lib.hid (PX.out.put (j := 1) (v := .string ⟨a0.toArray⟩) (y := ⟨{ stm0 1 pl with reg := a0 }, .slice none 0 0, .slice none 0 0⟩) rfl PX.out.re PX.out.rf)
  clear u0 y0 l0
  generalize w0.setCell ⟨b7, 1, none⟩ (.string ⟨a0.toArray⟩) = W0 at *
  refine (dmust HC.out PX.out.st [61]).mono ?_
  rintro e1 w1 ⟨rfl, hs1, hk1⟩
  replace PX := Lib.hid (PX.out.turn hs1 hk1)
  clear hs1 hk1
  go_wp2_with fail
  refine (dexpr HC.out PX.out.st).mono ?_
  rintro e2 w2 ⟨v2, a2, rfl, hr2, hg2, hs2, hk2⟩
  obtain ⟨A2, c2, rfl, _⟩ := id hr2.rd
  have RE2 := Lib.hid hr2
  clear hr2
  have G2 := Lib.hid hg2
  replace PX := Lib.hid (PX.out.turn hs2 hk2)
  clear hs2 hk2 hg2
  have l2 := PX.out.lt7
  have u2 : w2.cell? ⟨b7, 3, none⟩ = some (.slice none 0 0) := PX.out.c7 rfl
  have y2 := PX.out.f7 3
  go_upto_region 33 with (fail)
  replace PX := Lib.hid (PX.out.put (j := 3) (v := .slice A2 a2.length c2) (y := ⟨{ stm0 1 pl with reg := a0, e := a2 }, .slice A2 a2.length c2, .slice none 0 0⟩) rfl RE2.out PX.out.rf)
  clear u2 y2 l2
  generalize w2.setCell ⟨b7, 3, none⟩ (.slice A2 a2.length c2) = W2 at *
  have l6 := PX.out.lt6
  have l7 := PX.out.lt7
  have c0x : W2.cell? ⟨b7, 0, none⟩ = some (.int .i64 1) := PX.out.c7 rfl
  have c1x : W2.cell? ⟨b7, 1, none⟩ = some (.string ⟨a0.toArray⟩) := PX.out.c7 rfl
  have c2x : W2.cell? ⟨b7, 2, none⟩ = some (.string ⟨#[]⟩) := PX.out.c7 rfl
  have c3x : W2.cell? ⟨b7, 3, none⟩ = some (.slice A2 a2.length c2) := PX.out.c7 rfl
  have c4x : W2.cell? ⟨b7, 4, none⟩ = some (.slice none 0 0) := PX.out.c7 rfl
  have c5x : W2.cell? ⟨b7, 5, none⟩ = some (.int .i64 0) := PX.out.c7 rfl
  have c6x : W2.cell? ⟨b7, 6, none⟩ = some (.int .i64 0) := PX.out.c7 rfl
  have c7x : W2.cell? ⟨b7, 7, none⟩ = some (.int .i64 0) := PX.out.c7 rfl
  have c8x : W2.cell? ⟨b7, 8, none⟩ = some (.int .i64 pl) := PX.out.c7 rfl
  have d0x : W2.cell? ⟨b6, 0, none⟩ = some (.int .i64 0) := by rw [Lib.cell_of_heap PX.out.r6]; rfl
  have d1x : W2.cell? ⟨b6, 1, none⟩ = some (.string ⟨#[]⟩) := by rw [Lib.cell_of_heap PX.out.r6]; rfl
  have d2x : W2.cell? ⟨b6, 2, none⟩ = some (.string ⟨#[]⟩) := by rw [Lib.cell_of_heap PX.out.r6]; rfl
  have d3x : W2.cell? ⟨b6, 3, none⟩ = some (.slice none 0 0) := by rw [Lib.cell_of_heap PX.out.r6]; rfl
  have d4x : W2.cell? ⟨b6, 4, none⟩ = some (.slice none 0 0) := by rw [Lib.cell_of_heap PX.out.r6]; rfl
  have d5x : W2.cell? ⟨b6, 5, none⟩ = some (.int .i64 0) := by rw [Lib.cell_of_heap PX.out.r6]; rfl
  have d6x : W2.cell? ⟨b6, 6, none⟩ = some (.int .i64 0) := by rw [Lib.cell_of_heap PX.out.r6]; rfl
  have d7x : W2.cell? ⟨b6, 7, none⟩ = some (.int .i64 0) := by rw [Lib.cell_of_heap PX.out.r6]; rfl
  have d8x : W2.cell? ⟨b6, 8, none⟩ = some (.int .i64 0) := by rw [Lib.cell_of_heap PX.out.r6]; rfl
  have f0x : W2.frozen? ⟨b6, 0, none⟩ = false := Lib.frozen_of_heap PX.out.r6 0
  have f1x : W2.frozen? ⟨b6, 1, none⟩ = false := Lib.frozen_of_heap PX.out.r6 1
  have f2x : W2.frozen? ⟨b6, 2, none⟩ = false := Lib.frozen_of_heap PX.out.r6 2
  have f3x : W2.frozen? ⟨b6, 3, none⟩ = false := Lib.frozen_of_heap PX.out.r6 3
  have f4x : W2.frozen? ⟨b6, 4, none⟩ = false := Lib.frozen_of_heap PX.out.r6 4
  have f5x : W2.frozen? ⟨b6, 5, none⟩ = false := Lib.frozen_of_heap PX.out.r6 5
  have f6x : W2.frozen? ⟨b6, 6, none⟩ = false := Lib.frozen_of_heap PX.out.r6 6
  have f7x : W2.frozen? ⟨b6, 7, none⟩ = false := Lib.frozen_of_heap PX.out.r6 7
  have f8x : W2.frozen? ⟨b6, 8, none⟩ = false := Lib.frozen_of_heap PX.out.r6 8
  have ne := PX.out.ne
  have ne2 : ¬ b7 = b6 := fun e => ne e.symm
  go_wp2_with fail
  obtain ⟨N9, HP⟩ := PX.out.done (W := (((((((((W2.setCell ⟨b6, 0, none⟩ (.int .i64 1)).setCell ⟨b6, 1, none⟩ (.string ⟨a0.toArray⟩)).setCell ⟨b6, 2, none⟩ (.string ⟨#[]⟩)).setCell ⟨b6, 3, none⟩ (.slice A2 a2.length c2)).setCell ⟨b6, 4, none⟩ (.slice none 0 0)).setCell ⟨b6, 5, none⟩ (.int .i64 0)).setCell ⟨b6, 6, none⟩ (.int .i64 0)).setCell ⟨b6, 7, none⟩ (.int .i64 0)).setCell ⟨b6, 8, none⟩ (.int .i64 pl))) rfl (plain_1 L 1 pl i rfl G0.out G2.out).1.symm.symm (plain_1 L 1 pl i rfl G0.out G2.out).2
  have HPP := Lib.hid HP
  clear HP c0x d0x f0x c1x d1x f1x c2x d2x f2x c3x d3x f3x c4x d4x f4x c5x d5x f5x c6x d6x f6x c7x d7x f7x c8x d8x f8x
  generalize (((((((((W2.setCell ⟨b6, 0, none⟩ (.int .i64 1)).setCell ⟨b6, 1, none⟩ (.string ⟨a0.toArray⟩)).setCell ⟨b6, 2, none⟩ (.string ⟨#[]⟩)).setCell ⟨b6, 3, none⟩ (.slice A2 a2.length c2)).setCell ⟨b6, 4, none⟩ (.slice none 0 0)).setCell ⟨b6, 5, none⟩ (.int .i64 0)).setCell ⟨b6, 6, none⟩ (.int .i64 0)).setCell ⟨b6, 7, none⟩ (.int .i64 0)).setCell ⟨b6, 8, none⟩ (.int .i64 pl)) = WW at *
  obtain ⟨_, q0, q1, q2, q3, q4, q5, q6, q7, q8⟩ := N9
  simp only [stm0] at q0 q1 q2 q3 q4 q5 q6 q7 q8
  refine bodyPost_ret (v := .agg #[.int .i64 1, .string ⟨a0.toArray⟩, .string ⟨#[]⟩, .slice A2 a2.length c2, .slice none 0 0, .int .i64 0, .int .i64 0, .int .i64 0, .int .i64 pl]) (by simp [results, Tryz.results70, go_sem, q0, q1, q2, q3, q4, q5, q6, q7, q8]) rfl ?_
  exact HPP.out
set_option maxRecDepth 100000 in
set_option maxHeartbeats 16000000 in
theorem dplain_2 (hs : Src L W0 lv) {i : Nat} (h : Sr L W0 g lv (.ok () i) K kv w) (pl : Int) : Calls Tryz.prog 70 #[.pointer (some ⟨g, 0, none⟩), .int .i64 2, .int .i64 pl] w (PlainPost L W0 g lv (plainP L 2 pl i) K kv w) := by
  have HC := Lib.hid hs
  have PX := Lib.hid (plain_begin h 2 pl)
  clear h hs
  go_enter Tryz.func70, Tryz.ntmps70
  go_upto_region 2 with (fail)
  generalize (w.alloc (.cells #[.int .i64 0, .string ⟨#[]⟩, .string ⟨#[]⟩, .slice none 0 0, .slice none 0 0, .int .i64 0, .int .i64 0, .int .i64 0, .int .i64 0] 31)).alloc (.cells #[.int .i64 2, .string ⟨#[]⟩, .string ⟨#[]⟩, .slice none 0 0, .slice none 0 0, .int .i64 0, .int .i64 0, .int .i64 0, .int .i64 pl] 31) = W at *
  generalize w.heap.size + 1 = b7 at *
  generalize w.heap.size = b6 at *
  go_wp2_with fail
  refine (dname HC.out PX.out.st).mono ?_
  rintro e0 w0 ⟨a0, rfl, hg0, hs0, hk0⟩
  have G0 := Lib.hid hg0
  replace PX := Lib.hid (PX.out.turn hs0 hk0)
  clear hs0 hk0 hg0
  have l0 := PX.out.lt7
  have u0 : w0.cell? ⟨b7, 1, none⟩ = some (.string ⟨#[]⟩) := PX.out.c7 rfl
  have y0 := PX.out.f7 1
  go_wp2_with fail
  replace PX := Lib.hid (PX.out.put (j := 1) (v := .string ⟨a0.toArray⟩) (y := ⟨{ stm0 2 pl with reg := a0 }, .slice none 0 0, .slice none 0 0⟩) rfl PX.out.re PX.out.rf)
  clear u0 y0 l0
  generalize w0.setCell ⟨b7, 1, none⟩ (.string ⟨a0.toArray⟩) = W0 at *
  refine (dmust HC.out PX.out.st [61]).mono ?_
  rintro e1 w1 ⟨rfl, hs1, hk1⟩
  replace PX := Lib.hid (PX.out.turn hs1 hk1)
  clear hs1 hk1
  go_wp2_with fail
  refine (dname HC.out PX.out.st).mono ?_
  rintro e2 w2 ⟨a2, rfl, hg2, hs2, hk2⟩
  have G2 := Lib.hid hg2
  replace PX := Lib.hid (PX.out.turn hs2 hk2)
  clear hs2 hk2 hg2
  have l2 := PX.out.lt7
  have u2 : w2.cell? ⟨b7, 2, none⟩ = some (.string ⟨#[]⟩) := PX.out.c7 rfl
  have y2 := PX.out.f7 2
  go_upto_region 33 with (fail)
  replace PX := Lib.hid (PX.out.put (j := 2) (v := .string ⟨a2.toArray⟩) (y := ⟨{ stm0 2 pl with reg := a0, name := a2 }, .slice none 0 0, .slice none 0 0⟩) rfl PX.out.re PX.out.rf)
  clear u2 y2 l2
  generalize w2.setCell ⟨b7, 2, none⟩ (.string ⟨a2.toArray⟩) = W2 at *
  have l6 := PX.out.lt6
  have l7 := PX.out.lt7
  have c0x : W2.cell? ⟨b7, 0, none⟩ = some (.int .i64 2) := PX.out.c7 rfl
  have c1x : W2.cell? ⟨b7, 1, none⟩ = some (.string ⟨a0.toArray⟩) := PX.out.c7 rfl
  have c2x : W2.cell? ⟨b7, 2, none⟩ = some (.string ⟨a2.toArray⟩) := PX.out.c7 rfl
  have c3x : W2.cell? ⟨b7, 3, none⟩ = some (.slice none 0 0) := PX.out.c7 rfl
  have c4x : W2.cell? ⟨b7, 4, none⟩ = some (.slice none 0 0) := PX.out.c7 rfl
  have c5x : W2.cell? ⟨b7, 5, none⟩ = some (.int .i64 0) := PX.out.c7 rfl
  have c6x : W2.cell? ⟨b7, 6, none⟩ = some (.int .i64 0) := PX.out.c7 rfl
  have c7x : W2.cell? ⟨b7, 7, none⟩ = some (.int .i64 0) := PX.out.c7 rfl
  have c8x : W2.cell? ⟨b7, 8, none⟩ = some (.int .i64 pl) := PX.out.c7 rfl
  have d0x : W2.cell? ⟨b6, 0, none⟩ = some (.int .i64 0) := by rw [Lib.cell_of_heap PX.out.r6]; rfl
  have d1x : W2.cell? ⟨b6, 1, none⟩ = some (.string ⟨#[]⟩) := by rw [Lib.cell_of_heap PX.out.r6]; rfl
  have d2x : W2.cell? ⟨b6, 2, none⟩ = some (.string ⟨#[]⟩) := by rw [Lib.cell_of_heap PX.out.r6]; rfl
  have d3x : W2.cell? ⟨b6, 3, none⟩ = some (.slice none 0 0) := by rw [Lib.cell_of_heap PX.out.r6]; rfl
  have d4x : W2.cell? ⟨b6, 4, none⟩ = some (.slice none 0 0) := by rw [Lib.cell_of_heap PX.out.r6]; rfl
  have d5x : W2.cell? ⟨b6, 5, none⟩ = some (.int .i64 0) := by rw [Lib.cell_of_heap PX.out.r6]; rfl
  have d6x : W2.cell? ⟨b6, 6, none⟩ = some (.int .i64 0) := by rw [Lib.cell_of_heap PX.out.r6]; rfl
  have d7x : W2.cell? ⟨b6, 7, none⟩ = some (.int .i64 0) := by rw [Lib.cell_of_heap PX.out.r6]; rfl
  have d8x : W2.cell? ⟨b6, 8, none⟩ = some (.int .i64 0) := by rw [Lib.cell_of_heap PX.out.r6]; rfl
  have f0x : W2.frozen? ⟨b6, 0, none⟩ = false := Lib.frozen_of_heap PX.out.r6 0
  have f1x : W2.frozen? ⟨b6, 1, none⟩ = false := Lib.frozen_of_heap PX.out.r6 1
  have f2x : W2.frozen? ⟨b6, 2, none⟩ = false := Lib.frozen_of_heap PX.out.r6 2
  have f3x : W2.frozen? ⟨b6, 3, none⟩ = false := Lib.frozen_of_heap PX.out.r6 3
  have f4x : W2.frozen? ⟨b6, 4, none⟩ = false := Lib.frozen_of_heap PX.out.r6 4
  have f5x : W2.frozen? ⟨b6, 5, none⟩ = false := Lib.frozen_of_heap PX.out.r6 5
  have f6x : W2.frozen? ⟨b6, 6, none⟩ = false := Lib.frozen_of_heap PX.out.r6 6
  have f7x : W2.frozen? ⟨b6, 7, none⟩ = false := Lib.frozen_of_heap PX.out.r6 7
  have f8x : W2.frozen? ⟨b6, 8, none⟩ = false := Lib.frozen_of_heap PX.out.r6 8
  have ne := PX.out.ne
  have ne2 : ¬ b7 = b6 := fun e => ne e.symm
  go_wp2_with fail
  obtain ⟨N9, HP⟩ := PX.out.done (W := (((((((((W2.setCell ⟨b6, 0, none⟩ (.int .i64 2)).setCell ⟨b6, 1, none⟩ (.string ⟨a0.toArray⟩)).setCell ⟨b6, 2, none⟩ (.string ⟨a2.toArray⟩)).setCell ⟨b6, 3, none⟩ (.slice none 0 0)).setCell ⟨b6, 4, none⟩ (.slice none 0 0)).setCell ⟨b6, 5, none⟩ (.int .i64 0)).setCell ⟨b6, 6, none⟩ (.int .i64 0)).setCell ⟨b6, 7, none⟩ (.int .i64 0)).setCell ⟨b6, 8, none⟩ (.int .i64 pl))) rfl (plain_2 L 2 pl i rfl G0.out G2.out).1.symm.symm (plain_2 L 2 pl i rfl G0.out G2.out).2
  have HPP := Lib.hid HP
  clear HP c0x d0x f0x c1x d1x f1x c2x d2x f2x c3x d3x f3x c4x d4x f4x c5x d5x f5x c6x d6x f6x c7x d7x f7x c8x d8x f8x
  generalize (((((((((W2.setCell ⟨b6, 0, none⟩ (.int .i64 2)).setCell ⟨b6, 1, none⟩ (.string ⟨a0.toArray⟩)).setCell ⟨b6, 2, none⟩ (.string ⟨a2.toArray⟩)).setCell ⟨b6, 3, none⟩ (.slice none 0 0)).setCell ⟨b6, 4, none⟩ (.slice none 0 0)).setCell ⟨b6, 5, none⟩ (.int .i64 0)).setCell ⟨b6, 6, none⟩ (.int .i64 0)).setCell ⟨b6, 7, none⟩ (.int .i64 0)).setCell ⟨b6, 8, none⟩ (.int .i64 pl)) = WW at *
  obtain ⟨_, q0, q1, q2, q3, q4, q5, q6, q7, q8⟩ := N9
  simp only [stm0] at q0 q1 q2 q3 q4 q5 q6 q7 q8
  refine bodyPost_ret (v := .agg #[.int .i64 2, .string ⟨a0.toArray⟩, .string ⟨a2.toArray⟩, .slice none 0 0, .slice none 0 0, .int .i64 0, .int .i64 0, .int .i64 0, .int .i64 pl]) (by simp [results, Tryz.results70, go_sem, q0, q1, q2, q3, q4, q5, q6, q7, q8]) rfl ?_
  exact HPP.out
set_option maxRecDepth 100000 in
set_option maxHeartbeats 16000000 in
theorem dplain_3 (hs : Src L W0 lv) {i : Nat} (h : Sr L W0 g lv (.ok () i) K kv w) (pl : Int) : Calls Tryz.prog 70 #[.pointer (some ⟨g, 0, none⟩), .int .i64 3, .int .i64 pl] w (PlainPost L W0 g lv (plainP L 3 pl i) K kv w) := by
  have HC := Lib.hid hs
  have PX := Lib.hid (plain_begin h 3 pl)
  clear h hs
  go_enter Tryz.func70, Tryz.ntmps70
  go_upto_region 2 with (fail)
  generalize (w.alloc (.cells #[.int .i64 0, .string ⟨#[]⟩, .string ⟨#[]⟩, .slice none 0 0, .slice none 0 0, .int .i64 0, .int .i64 0, .int .i64 0, .int .i64 0] 31)).alloc (.cells #[.int .i64 3, .string ⟨#[]⟩, .string ⟨#[]⟩, .slice none 0 0, .slice none 0 0, .int .i64 0, .int .i64 0, .int .i64 0, .int .i64 pl] 31) = W at *
  generalize w.heap.size + 1 = b7 at *
  generalize w.heap.size = b6 at *
  go_wp2_with fail
  refine (dname HC.out PX.out.st).mono ?_
  rintro e0 w0 ⟨a0, rfl, hg0, hs0, hk0⟩
  have G0 := Lib.hid hg0
  replace PX := Lib.hid (PX.out.turn hs0 hk0)
  clear hs0 hk0 hg0
  have l0 := PX.out.lt7
  have u0 : w0.cell? ⟨b7, 2, none⟩ = some (.string ⟨#[]⟩) := PX.out.c7 rfl
  have y0 := PX.out.f7 2
  go_wp2_with fail
  replace PX := Lib.hid (PX.out.put (j := 2) (v := .string ⟨a0.toArray⟩) (y := ⟨{ stm0 3 pl with name := a0 }, .slice none 0 0, .slice none 0 0⟩) rfl PX.out.re PX.out.rf)
  clear u0 y0 l0
  generalize w0.setCell ⟨b7, 2, none⟩ (.string ⟨a0.toArray⟩) = W0 at *
  refine (dmust HC.out PX.out.st [61]).mono ?_
  rintro e1 w1 ⟨rfl, hs1, hk1⟩
  replace PX := Lib.hid (PX.out.turn hs1 hk1)
  clear hs1 hk1
  go_wp2_with fail
  refine (dexpr HC.out PX.out.st).mono ?_
  rintro e2 w2 ⟨v2, a2, rfl, hr2, hg2, hs2, hk2⟩
  obtain ⟨A2, c2, rfl, _⟩ := id hr2.rd
  have RE2 := Lib.hid hr2
  clear hr2
  have G2 := Lib.hid hg2
  replace PX := Lib.hid (PX.out.turn hs2 hk2)
  clear hs2 hk2 hg2
  have l2 := PX.out.lt7
  have u2 : w2.cell? ⟨b7, 3, none⟩ = some (.slice none 0 0) := PX.out.c7 rfl
  have y2 := PX.out.f7 3
  go_upto_region 33 with (fail)
  replace PX := Lib.hid (PX.out.put (j := 3) (v := .slice A2 a2.length c2) (y := ⟨{ stm0 3 pl with name := a0, e := a2 }, .slice A2 a2.length c2, .slice none 0 0⟩) rfl RE2.out PX.out.rf)
  clear u2 y2 l2
  generalize w2.setCell ⟨b7, 3, none⟩ (.slice A2 a2.length c2) = W2 at *
  have l6 := PX.out.lt6
  have l7 := PX.out.lt7
  have c0x : W2.cell? ⟨b7, 0, none⟩ = some (.int .i64 3) := PX.out.c7 rfl
  have c1x : W2.cell? ⟨b7, 1, none⟩ = some (.string ⟨#[]⟩) := PX.out.c7 rfl
  have c2x : W2.cell? ⟨b7, 2, none⟩ = some (.string ⟨a0.toArray⟩) := PX.out.c7 rfl
  have c3x : W2.cell? ⟨b7, 3, none⟩ = some (.slice A2 a2.length c2) := PX.out.c7 rfl
  have c4x : W2.cell? ⟨b7, 4, none⟩ = some (.slice none 0 0) := PX.out.c7 rfl
  have c5x : W2.cell? ⟨b7, 5, none⟩ = some (.int .i64 0) := PX.out.c7 rfl
  have c6x : W2.cell? ⟨b7, 6, none⟩ = some (.int .i64 0) := PX.out.c7 rfl
  have c7x : W2.cell? ⟨b7, 7, none⟩ = some (.int .i64 0) := PX.out.c7 rfl
  have c8x : W2.cell? ⟨b7, 8, none⟩ = some (.int .i64 pl) := PX.out.c7 rfl
  have d0x : W2.cell? ⟨b6, 0, none⟩ = some (.int .i64 0) := by rw [Lib.cell_of_heap PX.out.r6]; rfl
  have d1x : W2.cell? ⟨b6, 1, none⟩ = some (.string ⟨#[]⟩) := by rw [Lib.cell_of_heap PX.out.r6]; rfl
  have d2x : W2.cell? ⟨b6, 2, none⟩ = some (.string ⟨#[]⟩) := by rw [Lib.cell_of_heap PX.out.r6]; rfl
  have d3x : W2.cell? ⟨b6, 3, none⟩ = some (.slice none 0 0) := by rw [Lib.cell_of_heap PX.out.r6]; rfl
  have d4x : W2.cell? ⟨b6, 4, none⟩ = some (.slice none 0 0) := by rw [Lib.cell_of_heap PX.out.r6]; rfl
  have d5x : W2.cell? ⟨b6, 5, none⟩ = some (.int .i64 0) := by rw [Lib.cell_of_heap PX.out.r6]; rfl
  have d6x : W2.cell? ⟨b6, 6, none⟩ = some (.int .i64 0) := by rw [Lib.cell_of_heap PX.out.r6]; rfl
  have d7x : W2.cell? ⟨b6, 7, none⟩ = some (.int .i64 0) := by rw [Lib.cell_of_heap PX.out.r6]; rfl
  have d8x : W2.cell? ⟨b6, 8, none⟩ = some (.int .i64 0) := by rw [Lib.cell_of_heap PX.out.r6]; rfl
  have f0x : W2.frozen? ⟨b6, 0, none⟩ = false := Lib.frozen_of_heap PX.out.r6 0
  have f1x : W2.frozen? ⟨b6, 1, none⟩ = false := Lib.frozen_of_heap PX.out.r6 1
  have f2x : W2.frozen? ⟨b6, 2, none⟩ = false := Lib.frozen_of_heap PX.out.r6 2
  have f3x : W2.frozen? ⟨b6, 3, none⟩ = false := Lib.frozen_of_heap PX.out.r6 3
  have f4x : W2.frozen? ⟨b6, 4, none⟩ = false := Lib.frozen_of_heap PX.out.r6 4
  have f5x : W2.frozen? ⟨b6, 5, none⟩ = false := Lib.frozen_of_heap PX.out.r6 5
  have f6x : W2.frozen? ⟨b6, 6, none⟩ = false := Lib.frozen_of_heap PX.out.r6 6
  have f7x : W2.frozen? ⟨b6, 7, none⟩ = false := Lib.frozen_of_heap PX.out.r6 7
  have f8x : W2.frozen? ⟨b6, 8, none⟩ = false := Lib.frozen_of_heap PX.out.r6 8
  have ne := PX.out.ne
  have ne2 : ¬ b7 = b6 := fun e => ne e.symm
  go_wp2_with fail
  obtain ⟨N9, HP⟩ := PX.out.done (W := (((((((((W2.setCell ⟨b6, 0, none⟩ (.int .i64 3)).setCell ⟨b6, 1, none⟩ (.string ⟨#[]⟩)).setCell ⟨b6, 2, none⟩ (.string ⟨a0.toArray⟩)).setCell ⟨b6, 3, none⟩ (.slice A2 a2.length c2)).setCell ⟨b6, 4, none⟩ (.slice none 0 0)).setCell ⟨b6, 5, none⟩ (.int .i64 0)).setCell ⟨b6, 6, none⟩ (.int .i64 0)).setCell ⟨b6, 7, none⟩ (.int .i64 0)).setCell ⟨b6, 8, none⟩ (.int .i64 pl))) rfl (plain_3 L 3 pl i rfl G0.out G2.out).1.symm.symm (plain_3 L 3 pl i rfl G0.out G2.out).2
  have HPP := Lib.hid HP
  clear HP c0x d0x f0x c1x d1x f1x c2x d2x f2x c3x d3x f3x c4x d4x f4x c5x d5x f5x c6x d6x f6x c7x d7x f7x c8x d8x f8x
  generalize (((((((((W2.setCell ⟨b6, 0, none⟩ (.int .i64 3)).setCell ⟨b6, 1, none⟩ (.string ⟨#[]⟩)).setCell ⟨b6, 2, none⟩ (.string ⟨a0.toArray⟩)).setCell ⟨b6, 3, none⟩ (.slice A2 a2.length c2)).setCell ⟨b6, 4, none⟩ (.slice none 0 0)).setCell ⟨b6, 5, none⟩ (.int .i64 0)).setCell ⟨b6, 6, none⟩ (.int .i64 0)).setCell ⟨b6, 7, none⟩ (.int .i64 0)).setCell ⟨b6, 8, none⟩ (.int .i64 pl)) = WW at *
  obtain ⟨_, q0, q1, q2, q3, q4, q5, q6, q7, q8⟩ := N9
  simp only [stm0] at q0 q1 q2 q3 q4 q5 q6 q7 q8
  refine bodyPost_ret (v := .agg #[.int .i64 3, .string ⟨#[]⟩, .string ⟨a0.toArray⟩, .slice A2 a2.length c2, .slice none 0 0, .int .i64 0, .int .i64 0, .int .i64 0, .int .i64 pl]) (by simp [results, Tryz.results70, go_sem, q0, q1, q2, q3, q4, q5, q6, q7, q8]) rfl ?_
  exact HPP.out
set_option maxRecDepth 100000 in
set_option maxHeartbeats 16000000 in
theorem dplain_4 (hs : Src L W0 lv) {i : Nat} (h : Sr L W0 g lv (.ok () i) K kv w) (pl : Int) : Calls Tryz.prog 70 #[.pointer (some ⟨g, 0, none⟩), .int .i64 4, .int .i64 pl] w (PlainPost L W0 g lv (plainP L 4 pl i) K kv w) := by
  have HC := Lib.hid hs
  have PX := Lib.hid (plain_begin h 4 pl)
  clear h hs
  go_enter Tryz.func70, Tryz.ntmps70
  go_upto_region 2 with (fail)
  generalize (w.alloc (.cells #[.int .i64 0, .string ⟨#[]⟩, .string ⟨#[]⟩, .slice none 0 0, .slice none 0 0, .int .i64 0, .int .i64 0, .int .i64 0, .int .i64 0] 31)).alloc (.cells #[.int .i64 4, .string ⟨#[]⟩, .string ⟨#[]⟩, .slice none 0 0, .slice none 0 0, .int .i64 0, .int .i64 0, .int .i64 0, .int .i64 pl] 31) = W at *
  generalize w.heap.size + 1 = b7 at *
  generalize w.heap.size = b6 at *
  go_wp2_with fail
  refine (dname HC.out PX.out.st).mono ?_
  rintro e0 w0 ⟨a0, rfl, hg0, hs0, hk0⟩
  have G0 := Lib.hid hg0
  replace PX := Lib.hid (PX.out.turn hs0 hk0)
  clear hs0 hk0 hg0
  have l0 := PX.out.lt7
  have u0 : w0.cell? ⟨b7, 1, none⟩ = some (.string ⟨#[]⟩) := PX.out.c7 rfl
  have y0 := PX.out.f7 1
  go_wp2_with fail
  replace PX := Lib.hid (PX.out.put (j := 1) (v := .string ⟨a0.toArray⟩) (y := ⟨{ stm0 4 pl with reg := a0 }, .slice none 0 0, .slice none 0 0⟩) rfl PX.out.re PX.out.rf)
  clear u0 y0 l0
  generalize w0.setCell ⟨b7, 1, none⟩ (.string ⟨a0.toArray⟩) = W0 at *
  refine (dmust HC.out PX.out.st [61]).mono ?_
  rintro e1 w1 ⟨rfl, hs1, hk1⟩
  replace PX := Lib.hid (PX.out.turn hs1 hk1)
  clear hs1 hk1
  go_wp2_with fail
  refine (dname HC.out PX.out.st).mono ?_
  rintro e2 w2 ⟨a2, rfl, hg2, hs2, hk2⟩
  have G2 := Lib.hid hg2
  replace PX := Lib.hid (PX.out.turn hs2 hk2)
  clear hs2 hk2 hg2
  have l2 := PX.out.lt7
  have u2 : w2.cell? ⟨b7, 2, none⟩ = some (.string ⟨#[]⟩) := PX.out.c7 rfl
  have y2 := PX.out.f7 2
  go_wp2_with fail
  replace PX := Lib.hid (PX.out.put (j := 2) (v := .string ⟨a2.toArray⟩) (y := ⟨{ stm0 4 pl with reg := a0, name := a2 }, .slice none 0 0, .slice none 0 0⟩) rfl PX.out.re PX.out.rf)
  clear u2 y2 l2
  generalize w2.setCell ⟨b7, 2, none⟩ (.string ⟨a2.toArray⟩) = W2 at *
  refine (dmust HC.out PX.out.st [44]).mono ?_
  rintro e3 w3 ⟨rfl, hs3, hk3⟩
  replace PX := Lib.hid (PX.out.turn hs3 hk3)
  clear hs3 hk3
  go_wp2_with fail
  refine (dexpr HC.out PX.out.st).mono ?_
  rintro e4 w4 ⟨v4, a4, rfl, hr4, hg4, hs4, hk4⟩
  obtain ⟨A4, c4, rfl, _⟩ := id hr4.rd
  have RE4 := Lib.hid hr4
  clear hr4
  have G4 := Lib.hid hg4
  replace PX := Lib.hid (PX.out.turn hs4 hk4)
  clear hs4 hk4 hg4
  have l4 := PX.out.lt7
  have u4 : w4.cell? ⟨b7, 3, none⟩ = some (.slice none 0 0) := PX.out.c7 rfl
  have y4 := PX.out.f7 3
  go_wp2_with fail
  replace PX := Lib.hid (PX.out.put (j := 3) (v := .slice A4 a4.length c4) (y := ⟨{ stm0 4 pl with reg := a0, name := a2, e := a4 }, .slice A4 a4.length c4, .slice none 0 0⟩) rfl RE4.out PX.out.rf)
  clear u4 y4 l4
  generalize w4.setCell ⟨b7, 3, none⟩ (.slice A4 a4.length c4) = W4 at *
  refine (dmust HC.out PX.out.st [44]).mono ?_
  rintro e5 w5 ⟨rfl, hs5, hk5⟩
  replace PX := Lib.hid (PX.out.turn hs5 hk5)
  clear hs5 hk5
  go_wp2_with fail
  refine (dexpr HC.out PX.out.st).mono ?_
  rintro e6 w6 ⟨v6, a6, rfl, hr6, hg6, hs6, hk6⟩
  obtain ⟨A6, c6, rfl, _⟩ := id hr6.rd
  have RE6 := Lib.hid hr6
  clear hr6
  have G6 := Lib.hid hg6
  replace PX := Lib.hid (PX.out.turn hs6 hk6)
  clear hs6 hk6 hg6
  have l6 := PX.out.lt7
  have u6 : w6.cell? ⟨b7, 4, none⟩ = some (.slice none 0 0) := PX.out.c7 rfl
  have y6 := PX.out.f7 4
  go_upto_region 33 with (fail)
  replace PX := Lib.hid (PX.out.put (j := 4) (v := .slice A6 a6.length c6) (y := ⟨{ stm0 4 pl with reg := a0, name := a2, e := a4, f := a6 }, .slice A4 a4.length c4, .slice A6 a6.length c6⟩) rfl PX.out.re RE6.out)
  clear u6 y6 l6
  generalize w6.setCell ⟨b7, 4, none⟩ (.slice A6 a6.length c6) = W6 at *
  have l6 := PX.out.lt6
  have l7 := PX.out.lt7
  have c0x : W6.cell? ⟨b7, 0, none⟩ = some (.int .i64 4) := PX.out.c7 rfl
  have c1x : W6.cell? ⟨b7, 1, none⟩ = some (.string ⟨a0.toArray⟩) := PX.out.c7 rfl
  have c2x : W6.cell? ⟨b7, 2, none⟩ = some (.string ⟨a2.toArray⟩) := PX.out.c7 rfl
  have c3x : W6.cell? ⟨b7, 3, none⟩ = some (.slice A4 a4.length c4) := PX.out.c7 rfl
  have c4x : W6.cell? ⟨b7, 4, none⟩ = some (.slice A6 a6.length c6) := PX.out.c7 rfl
  have c5x : W6.cell? ⟨b7, 5, none⟩ = some (.int .i64 0) := PX.out.c7 rfl
  have c6x : W6.cell? ⟨b7, 6, none⟩ = some (.int .i64 0) := PX.out.c7 rfl
  have c7x : W6.cell? ⟨b7, 7, none⟩ = some (.int .i64 0) := PX.out.c7 rfl
  have c8x : W6.cell? ⟨b7, 8, none⟩ = some (.int .i64 pl) := PX.out.c7 rfl
  have d0x : W6.cell? ⟨b6, 0, none⟩ = some (.int .i64 0) := by rw [Lib.cell_of_heap PX.out.r6]; rfl
  have d1x : W6.cell? ⟨b6, 1, none⟩ = some (.string ⟨#[]⟩) := by rw [Lib.cell_of_heap PX.out.r6]; rfl
  have d2x : W6.cell? ⟨b6, 2, none⟩ = some (.string ⟨#[]⟩) := by rw [Lib.cell_of_heap PX.out.r6]; rfl
  have d3x : W6.cell? ⟨b6, 3, none⟩ = some (.slice none 0 0) := by rw [Lib.cell_of_heap PX.out.r6]; rfl
  have d4x : W6.cell? ⟨b6, 4, none⟩ = some (.slice none 0 0) := by rw [Lib.cell_of_heap PX.out.r6]; rfl
  have d5x : W6.cell? ⟨b6, 5, none⟩ = some (.int .i64 0) := by rw [Lib.cell_of_heap PX.out.r6]; rfl
  have d6x : W6.cell? ⟨b6, 6, none⟩ = some (.int .i64 0) := by rw [Lib.cell_of_heap PX.out.r6]; rfl
  have d7x : W6.cell? ⟨b6, 7, none⟩ = some (.int .i64 0) := by rw [Lib.cell_of_heap PX.out.r6]; rfl
  have d8x : W6.cell? ⟨b6, 8, none⟩ = some (.int .i64 0) := by rw [Lib.cell_of_heap PX.out.r6]; rfl
  have f0x : W6.frozen? ⟨b6, 0, none⟩ = false := Lib.frozen_of_heap PX.out.r6 0
  have f1x : W6.frozen? ⟨b6, 1, none⟩ = false := Lib.frozen_of_heap PX.out.r6 1
  have f2x : W6.frozen? ⟨b6, 2, none⟩ = false := Lib.frozen_of_heap PX.out.r6 2
  have f3x : W6.frozen? ⟨b6, 3, none⟩ = false := Lib.frozen_of_heap PX.out.r6 3
  have f4x : W6.frozen? ⟨b6, 4, none⟩ = false := Lib.frozen_of_heap PX.out.r6 4
  have f5x : W6.frozen? ⟨b6, 5, none⟩ = false := Lib.frozen_of_heap PX.out.r6 5
  have f6x : W6.frozen? ⟨b6, 6, none⟩ = false := Lib.frozen_of_heap PX.out.r6 6
  have f7x : W6.frozen? ⟨b6, 7, none⟩ = false := Lib.frozen_of_heap PX.out.r6 7
  have f8x : W6.frozen? ⟨b6, 8, none⟩ = false := Lib.frozen_of_heap PX.out.r6 8
  have ne := PX.out.ne
  have ne2 : ¬ b7 = b6 := fun e => ne e.symm
  go_wp2_with fail
  obtain ⟨N9, HP⟩ := PX.out.done (W := (((((((((W6.setCell ⟨b6, 0, none⟩ (.int .i64 4)).setCell ⟨b6, 1, none⟩ (.string ⟨a0.toArray⟩)).setCell ⟨b6, 2, none⟩ (.string ⟨a2.toArray⟩)).setCell ⟨b6, 3, none⟩ (.slice A4 a4.length c4)).setCell ⟨b6, 4, none⟩ (.slice A6 a6.length c6)).setCell ⟨b6, 5, none⟩ (.int .i64 0)).setCell ⟨b6, 6, none⟩ (.int .i64 0)).setCell ⟨b6, 7, none⟩ (.int .i64 0)).setCell ⟨b6, 8, none⟩ (.int .i64 pl))) rfl (plain_4 L 4 pl i rfl G0.out G2.out G4.out G6.out).1.symm.symm (plain_4 L 4 pl i rfl G0.out G2.out G4.out G6.out).2
  have HPP := Lib.hid HP
  clear HP c0x d0x f0x c1x d1x f1x c2x d2x f2x c3x d3x f3x c4x d4x f4x c5x d5x f5x c6x d6x f6x c7x d7x f7x c8x d8x f8x
  generalize (((((((((W6.setCell ⟨b6, 0, none⟩ (.int .i64 4)).setCell ⟨b6, 1, none⟩ (.string ⟨a0.toArray⟩)).setCell ⟨b6, 2, none⟩ (.string ⟨a2.toArray⟩)).setCell ⟨b6, 3, none⟩ (.slice A4 a4.length c4)).setCell ⟨b6, 4, none⟩ (.slice A6 a6.length c6)).setCell ⟨b6, 5, none⟩ (.int .i64 0)).setCell ⟨b6, 6, none⟩ (.int .i64 0)).setCell ⟨b6, 7, none⟩ (.int .i64 0)).setCell ⟨b6, 8, none⟩ (.int .i64 pl)) = WW at *
  obtain ⟨_, q0, q1, q2, q3, q4, q5, q6, q7, q8⟩ := N9
  simp only [stm0] at q0 q1 q2 q3 q4 q5 q6 q7 q8
  refine bodyPost_ret (v := .agg #[.int .i64 4, .string ⟨a0.toArray⟩, .string ⟨a2.toArray⟩, .slice A4 a4.length c4, .slice A6 a6.length c6, .int .i64 0, .int .i64 0, .int .i64 0, .int .i64 pl]) (by simp [results, Tryz.results70, go_sem, q0, q1, q2, q3, q4, q5, q6, q7, q8]) rfl ?_
  exact HPP.out
set_option maxRecDepth 100000 in
set_option maxHeartbeats 16000000 in
theorem dplain_5 (hs : Src L W0 lv) {i : Nat} (h : Sr L W0 g lv (.ok () i) K kv w) (pl : Int) : Calls Tryz.prog 70 #[.pointer (some ⟨g, 0, none⟩), .int .i64 5, .int .i64 pl] w (PlainPost L W0 g lv (plainP L 5 pl i) K kv w) := by
  have HC := Lib.hid hs
  have PX := Lib.hid (plain_begin h 5 pl)
  clear h hs
  go_enter Tryz.func70, Tryz.ntmps70
  go_upto_region 2 with (fail)
  generalize (w.alloc (.cells #[.int .i64 0, .string ⟨#[]⟩, .string ⟨#[]⟩, .slice none 0 0, .slice none 0 0, .int .i64 0, .int .i64 0, .int .i64 0, .int .i64 0] 31)).alloc (.cells #[.int .i64 5, .string ⟨#[]⟩, .string ⟨#[]⟩, .slice none 0 0, .slice none 0 0, .int .i64 0, .int .i64 0, .int .i64 0, .int .i64 pl] 31) = W at *
  generalize w.heap.size + 1 = b7 at *
  generalize w.heap.size = b6 at *
  go_wp2_with fail
  refine (dname HC.out PX.out.st).mono ?_
  rintro e0 w0 ⟨a0, rfl, hg0, hs0, hk0⟩
  have G0 := Lib.hid hg0
  replace PX := Lib.hid (PX.out.turn hs0 hk0)
  clear hs0 hk0 hg0
  have l0 := PX.out.lt7
  have u0 : w0.cell? ⟨b7, 2, none⟩ = some (.string ⟨#[]⟩) := PX.out.c7 rfl
  have y0 := PX.out.f7 2
  go_upto_region 33 with (fail)
  replace PX := Lib.hid (PX.out.put (j := 2) (v := .string ⟨a0.toArray⟩) (y := ⟨{ stm0 5 pl with name := a0 }, .slice none 0 0, .slice none 0 0⟩) rfl PX.out.re PX.out.rf)
  clear u0 y0 l0
  generalize w0.setCell ⟨b7, 2, none⟩ (.string ⟨a0.toArray⟩) = W0 at *
  have l6 := PX.out.lt6
  have l7 := PX.out.lt7
  have c0x : W0.cell? ⟨b7, 0, none⟩ = some (.int .i64 5) := PX.out.c7 rfl
  have c1x : W0.cell? ⟨b7, 1, none⟩ = some (.string ⟨#[]⟩) := PX.out.c7 rfl
  have c2x : W0.cell? ⟨b7, 2, none⟩ = some (.string ⟨a0.toArray⟩) := PX.out.c7 rfl
  have c3x : W0.cell? ⟨b7, 3, none⟩ = some (.slice none 0 0) := PX.out.c7 rfl
  have c4x : W0.cell? ⟨b7, 4, none⟩ = some (.slice none 0 0) := PX.out.c7 rfl
  have c5x : W0.cell? ⟨b7, 5, none⟩ = some (.int .i64 0) := PX.out.c7 rfl
  have c6x : W0.cell? ⟨b7, 6, none⟩ = some (.int .i64 0) := PX.out.c7 rfl
  have c7x : W0.cell? ⟨b7, 7, none⟩ = some (.int .i64 0) := PX.out.c7 rfl
  have c8x : W0.cell? ⟨b7, 8, none⟩ = some (.int .i64 pl) := PX.out.c7 rfl
  have d0x : W0.cell? ⟨b6, 0, none⟩ = some (.int .i64 0) := by rw [Lib.cell_of_heap PX.out.r6]; rfl
  have d1x : W0.cell? ⟨b6, 1, none⟩ = some (.string ⟨#[]⟩) := by rw [Lib.cell_of_heap PX.out.r6]; rfl
  have d2x : W0.cell? ⟨b6, 2, none⟩ = some (.string ⟨#[]⟩) := by rw [Lib.cell_of_heap PX.out.r6]; rfl
  have d3x : W0.cell? ⟨b6, 3, none⟩ = some (.slice none 0 0) := by rw [Lib.cell_of_heap PX.out.r6]; rfl
  have d4x : W0.cell? ⟨b6, 4, none⟩ = some (.slice none 0 0) := by rw [Lib.cell_of_heap PX.out.r6]; rfl
  have d5x : W0.cell? ⟨b6, 5, none⟩ = some (.int .i64 0) := by rw [Lib.cell_of_heap PX.out.r6]; rfl
  have d6x : W0.cell? ⟨b6, 6, none⟩ = some (.int .i64 0) := by rw [Lib.cell_of_heap PX.out.r6]; rfl
  have d7x : W0.cell? ⟨b6, 7, none⟩ = some (.int .i64 0) := by rw [Lib.cell_of_heap PX.out.r6]; rfl
  have d8x : W0.cell? ⟨b6, 8, none⟩ = some (.int .i64 0) := by rw [Lib.cell_of_heap PX.out.r6]; rfl
  have f0x : W0.frozen? ⟨b6, 0, none⟩ = false := Lib.frozen_of_heap PX.out.r6 0
  have f1x : W0.frozen? ⟨b6, 1, none⟩ = false := Lib.frozen_of_heap PX.out.r6 1
  have f2x : W0.frozen? ⟨b6, 2, none⟩ = false := Lib.frozen_of_heap PX.out.r6 2
  have f3x : W0.frozen? ⟨b6, 3, none⟩ = false := Lib.frozen_of_heap PX.out.r6 3
  have f4x : W0.frozen? ⟨b6, 4, none⟩ = false := Lib.frozen_of_heap PX.out.r6 4
  have f5x : W0.frozen? ⟨b6, 5, none⟩ = false := Lib.frozen_of_heap PX.out.r6 5
  have f6x : W0.frozen? ⟨b6, 6, none⟩ = false := Lib.frozen_of_heap PX.out.r6 6
  have f7x : W0.frozen? ⟨b6, 7, none⟩ = false := Lib.frozen_of_heap PX.out.r6 7
  have f8x : W0.frozen? ⟨b6, 8, none⟩ = false := Lib.frozen_of_heap PX.out.r6 8
  have ne := PX.out.ne
  have ne2 : ¬ b7 = b6 := fun e => ne e.symm
  go_wp2_with fail
  obtain ⟨N9, HP⟩ := PX.out.done (W := (((((((((W0.setCell ⟨b6, 0, none⟩ (.int .i64 5)).setCell ⟨b6, 1, none⟩ (.string ⟨#[]⟩)).setCell ⟨b6, 2, none⟩ (.string ⟨a0.toArray⟩)).setCell ⟨b6, 3, none⟩ (.slice none 0 0)).setCell ⟨b6, 4, none⟩ (.slice none 0 0)).setCell ⟨b6, 5, none⟩ (.int .i64 0)).setCell ⟨b6, 6, none⟩ (.int .i64 0)).setCell ⟨b6, 7, none⟩ (.int .i64 0)).setCell ⟨b6, 8, none⟩ (.int .i64 pl))) rfl (plain_n L 5 pl i (by omega) G0.out).1.symm.symm (plain_n L 5 pl i (by omega) G0.out).2
  have HPP := Lib.hid HP
  clear HP c0x d0x f0x c1x d1x f1x c2x d2x f2x c3x d3x f3x c4x d4x f4x c5x d5x f5x c6x d6x f6x c7x d7x f7x c8x d8x f8x
  generalize (((((((((W0.setCell ⟨b6, 0, none⟩ (.int .i64 5)).setCell ⟨b6, 1, none⟩ (.string ⟨#[]⟩)).setCell ⟨b6, 2, none⟩ (.string ⟨a0.toArray⟩)).setCell ⟨b6, 3, none⟩ (.slice none 0 0)).setCell ⟨b6, 4, none⟩ (.slice none 0 0)).setCell ⟨b6, 5, none⟩ (.int .i64 0)).setCell ⟨b6, 6, none⟩ (.int .i64 0)).setCell ⟨b6, 7, none⟩ (.int .i64 0)).setCell ⟨b6, 8, none⟩ (.int .i64 pl)) = WW at *
  obtain ⟨_, q0, q1, q2, q3, q4, q5, q6, q7, q8⟩ := N9
  simp only [stm0] at q0 q1 q2 q3 q4 q5 q6 q7 q8
  refine bodyPost_ret (v := .agg #[.int .i64 5, .string ⟨#[]⟩, .string ⟨a0.toArray⟩, .slice none 0 0, .slice none 0 0, .int .i64 0, .int .i64 0, .int .i64 0, .int .i64 pl]) (by simp [results, Tryz.results70, go_sem, q0, q1, q2, q3, q4, q5, q6, q7, q8]) rfl ?_
  exact HPP.out
set_option maxRecDepth 100000 in
set_option maxHeartbeats 16000000 in
theorem dplain_6 (hs : Src L W0 lv) {i : Nat} (h : Sr L W0 g lv (.ok () i) K kv w) (pl : Int) : Calls Tryz.prog 70 #[.pointer (some ⟨g, 0, none⟩), .int .i64 6, .int .i64 pl] w (PlainPost L W0 g lv (plainP L 6 pl i) K kv w) := by
  have HC := Lib.hid hs
  have PX := Lib.hid (plain_begin h 6 pl)
  clear h hs
  go_enter Tryz.func70, Tryz.ntmps70
  go_upto_region 2 with (fail)
  generalize (w.alloc (.cells #[.int .i64 0, .string ⟨#[]⟩, .string ⟨#[]⟩, .slice none 0 0, .slice none 0 0, .int .i64 0, .int .i64 0, .int .i64 0, .int .i64 0] 31)).alloc (.cells #[.int .i64 6, .string ⟨#[]⟩, .string ⟨#[]⟩, .slice none 0 0, .slice none 0 0, .int .i64 0, .int .i64 0, .int .i64 0, .int .i64 pl] 31) = W at *
  generalize w.heap.size + 1 = b7 at *
  generalize w.heap.size = b6 at *
  go_wp2_with fail
  refine (dname HC.out PX.out.st).mono ?_
  rintro e0 w0 ⟨a0, rfl, hg0, hs0, hk0⟩
  have G0 := Lib.hid hg0
  replace PX := Lib.hid (PX.out.turn hs0 hk0)
  clear hs0 hk0 hg0
  have l0 := PX.out.lt7
  have u0 : w0.cell? ⟨b7, 2, none⟩ = some (.string ⟨#[]⟩) := PX.out.c7 rfl
  have y0 := PX.out.f7 2
  go_upto_region 33 with (fail)
  replace PX := Lib.hid (PX.out.put (j := 2) (v := .string ⟨a0.toArray⟩) (y := ⟨{ stm0 6 pl with name := a0 }, .slice none 0 0, .slice none 0 0⟩) rfl PX.out.re PX.out.rf)
  clear u0 y0 l0
  generalize w0.setCell ⟨b7, 2, none⟩ (.string ⟨a0.toArray⟩) = W0 at *
  have l6 := PX.out.lt6
  have l7 := PX.out.lt7
  have c0x : W0.cell? ⟨b7, 0, none⟩ = some (.int .i64 6) := PX.out.c7 rfl
  have c1x : W0.cell? ⟨b7, 1, none⟩ = some (.string ⟨#[]⟩) := PX.out.c7 rfl
  have c2x : W0.cell? ⟨b7, 2, none⟩ = some (.string ⟨a0.toArray⟩) := PX.out.c7 rfl
  have c3x : W0.cell? ⟨b7, 3, none⟩ = some (.slice none 0 0) := PX.out.c7 rfl
  have c4x : W0.cell? ⟨b7, 4, none⟩ = some (.slice none 0 0) := PX.out.c7 rfl
  have c5x : W0.cell? ⟨b7, 5, none⟩ = some (.int .i64 0) := PX.out.c7 rfl
  have c6x : W0.cell? ⟨b7, 6, none⟩ = some (.int .i64 0) := PX.out.c7 rfl
  have c7x : W0.cell? ⟨b7, 7, none⟩ = some (.int .i64 0) := PX.out.c7 rfl
  have c8x : W0.cell? ⟨b7, 8, none⟩ = some (.int .i64 pl) := PX.out.c7 rfl
  have d0x : W0.cell? ⟨b6, 0, none⟩ = some (.int .i64 0) := by rw [Lib.cell_of_heap PX.out.r6]; rfl
  have d1x : W0.cell? ⟨b6, 1, none⟩ = some (.string ⟨#[]⟩) := by rw [Lib.cell_of_heap PX.out.r6]; rfl
  have d2x : W0.cell? ⟨b6, 2, none⟩ = some (.string ⟨#[]⟩) := by rw [Lib.cell_of_heap PX.out.r6]; rfl
  have d3x : W0.cell? ⟨b6, 3, none⟩ = some (.slice none 0 0) := by rw [Lib.cell_of_heap PX.out.r6]; rfl
  have d4x : W0.cell? ⟨b6, 4, none⟩ = some (.slice none 0 0) := by rw [Lib.cell_of_heap PX.out.r6]; rfl
  have d5x : W0.cell? ⟨b6, 5, none⟩ = some (.int .i64 0) := by rw [Lib.cell_of_heap PX.out.r6]; rfl
  have d6x : W0.cell? ⟨b6, 6, none⟩ = some (.int .i64 0) := by rw [Lib.cell_of_heap PX.out.r6]; rfl
  have d7x : W0.cell? ⟨b6, 7, none⟩ = some (.int .i64 0) := by rw [Lib.cell_of_heap PX.out.r6]; rfl
  have d8x : W0.cell? ⟨b6, 8, none⟩ = some (.int .i64 0) := by rw [Lib.cell_of_heap PX.out.r6]; rfl
  have f0x : W0.frozen? ⟨b6, 0, none⟩ = false := Lib.frozen_of_heap PX.out.r6 0
  have f1x : W0.frozen? ⟨b6, 1, none⟩ = false := Lib.frozen_of_heap PX.out.r6 1
  have f2x : W0.frozen? ⟨b6, 2, none⟩ = false := Lib.frozen_of_heap PX.out.r6 2
  have f3x : W0.frozen? ⟨b6, 3, none⟩ = false := Lib.frozen_of_heap PX.out.r6 3
  have f4x : W0.frozen? ⟨b6, 4, none⟩ = false := Lib.frozen_of_heap PX.out.r6 4
  have f5x : W0.frozen? ⟨b6, 5, none⟩ = false := Lib.frozen_of_heap PX.out.r6 5
  have f6x : W0.frozen? ⟨b6, 6, none⟩ = false := Lib.frozen_of_heap PX.out.r6 6
  have f7x : W0.frozen? ⟨b6, 7, none⟩ = false := Lib.frozen_of_heap PX.out.r6 7
  have f8x : W0.frozen? ⟨b6, 8, none⟩ = false := Lib.frozen_of_heap PX.out.r6 8
  have ne := PX.out.ne
  have ne2 : ¬ b7 = b6 := fun e => ne e.symm
  go_wp2_with fail
  obtain ⟨N9, HP⟩ := PX.out.done (W := (((((((((W0.setCell ⟨b6, 0, none⟩ (.int .i64 6)).setCell ⟨b6, 1, none⟩ (.string ⟨#[]⟩)).setCell ⟨b6, 2, none⟩ (.string ⟨a0.toArray⟩)).setCell ⟨b6, 3, none⟩ (.slice none 0 0)).setCell ⟨b6, 4, none⟩ (.slice none 0 0)).setCell ⟨b6, 5, none⟩ (.int .i64 0)).setCell ⟨b6, 6, none⟩ (.int .i64 0)).setCell ⟨b6, 7, none⟩ (.int .i64 0)).setCell ⟨b6, 8, none⟩ (.int .i64 pl))) rfl (plain_n L 6 pl i (by omega) G0.out).1.symm.symm (plain_n L 6 pl i (by omega) G0.out).2
  have HPP := Lib.hid HP
  clear HP c0x d0x f0x c1x d1x f1x c2x d2x f2x c3x d3x f3x c4x d4x f4x c5x d5x f5x c6x d6x f6x c7x d7x f7x c8x d8x f8x
  generalize (((((((((W0.setCell ⟨b6, 0, none⟩ (.int .i64 6)).setCell ⟨b6, 1, none⟩ (.string ⟨#[]⟩)).setCell ⟨b6, 2, none⟩ (.string ⟨a0.toArray⟩)).setCell ⟨b6, 3, none⟩ (.slice none 0 0)).setCell ⟨b6, 4, none⟩ (.slice none 0 0)).setCell ⟨b6, 5, none⟩ (.int .i64 0)).setCell ⟨b6, 6, none⟩ (.int .i64 0)).setCell ⟨b6, 7, none⟩ (.int .i64 0)).setCell ⟨b6, 8, none⟩ (.int .i64 pl)) = WW at *
  obtain ⟨_, q0, q1, q2, q3, q4, q5, q6, q7, q8⟩ := N9
  simp only [stm0] at q0 q1 q2 q3 q4 q5 q6 q7 q8
  refine bodyPost_ret (v := .agg #[.int .i64 6, .string ⟨#[]⟩, .string ⟨a0.toArray⟩, .slice none 0 0, .slice none 0 0, .int .i64 0, .int .i64 0, .int .i64 0, .int .i64 pl]) (by simp [results, Tryz.results70, go_sem, q0, q1, q2, q3, q4, q5, q6, q7, q8]) rfl ?_
  exact HPP.out
set_option maxRecDepth 100000 in
set_option maxHeartbeats 16000000 in
theorem dplain_9 (hs : Src L W0 lv) {i : Nat} (h : Sr L W0 g lv (.ok () i) K kv w) (pl : Int) : Calls Tryz.prog 70 #[.pointer (some ⟨g, 0, none⟩), .int .i64 9, .int .i64 pl] w (PlainPost L W0 g lv (plainP L 9 pl i) K kv w) := by
  have HC := Lib.hid hs
  have PX := Lib.hid (plain_begin h 9 pl)
  clear h hs
  go_enter Tryz.func70, Tryz.ntmps70
  go_upto_region 2 with (fail)
  generalize (w.alloc (.cells #[.int .i64 0, .string ⟨#[]⟩, .string ⟨#[]⟩, .slice none 0 0, .slice none 0 0, .int .i64 0, .int .i64 0, .int .i64 0, .int .i64 0] 31)).alloc (.cells #[.int .i64 9, .string ⟨#[]⟩, .string ⟨#[]⟩, .slice none 0 0, .slice none 0 0, .int .i64 0, .int .i64 0, .int .i64 0, .int .i64 pl] 31) = W at *
  generalize w.heap.size + 1 = b7 at *
  generalize w.heap.size = b6 at *
  go_wp2_with fail
  refine (dname HC.out PX.out.st).mono ?_
  rintro e0 w0 ⟨a0, rfl, hg0, hs0, hk0⟩
  have G0 := Lib.hid hg0
  replace PX := Lib.hid (PX.out.turn hs0 hk0)
  clear hs0 hk0 hg0
  have l0 := PX.out.lt7
  have u0 : w0.cell? ⟨b7, 2, none⟩ = some (.string ⟨#[]⟩) := PX.out.c7 rfl
  have y0 := PX.out.f7 2
  go_upto_region 33 with (fail)
  replace PX := Lib.hid (PX.out.put (j := 2) (v := .string ⟨a0.toArray⟩) (y := ⟨{ stm0 9 pl with name := a0 }, .slice none 0 0, .slice none 0 0⟩) rfl PX.out.re PX.out.rf)
  clear u0 y0 l0
  generalize w0.setCell ⟨b7, 2, none⟩ (.string ⟨a0.toArray⟩) = W0 at *
  have l6 := PX.out.lt6
  have l7 := PX.out.lt7
  have c0x : W0.cell? ⟨b7, 0, none⟩ = some (.int .i64 9) := PX.out.c7 rfl
  have c1x : W0.cell? ⟨b7, 1, none⟩ = some (.string ⟨#[]⟩) := PX.out.c7 rfl
  have c2x : W0.cell? ⟨b7, 2, none⟩ = some (.string ⟨a0.toArray⟩) := PX.out.c7 rfl
  have c3x : W0.cell? ⟨b7, 3, none⟩ = some (.slice none 0 0) := PX.out.c7 rfl
  have c4x : W0.cell? ⟨b7, 4, none⟩ = some (.slice none 0 0) := PX.out.c7 rfl
  have c5x : W0.cell? ⟨b7, 5, none⟩ = some (.int .i64 0) := PX.out.c7 rfl
  have c6x : W0.cell? ⟨b7, 6, none⟩ = some (.int .i64 0) := PX.out.c7 rfl
  have c7x : W0.cell? ⟨b7, 7, none⟩ = some (.int .i64 0) := PX.out.c7 rfl
  have c8x : W0.cell? ⟨b7, 8, none⟩ = some (.int .i64 pl) := PX.out.c7 rfl
  have d0x : W0.cell? ⟨b6, 0, none⟩ = some (.int .i64 0) := by rw [Lib.cell_of_heap PX.out.r6]; rfl
  have d1x : W0.cell? ⟨b6, 1, none⟩ = some (.string ⟨#[]⟩) := by rw [Lib.cell_of_heap PX.out.r6]; rfl
  have d2x : W0.cell? ⟨b6, 2, none⟩ = some (.string ⟨#[]⟩) := by rw [Lib.cell_of_heap PX.out.r6]; rfl
  have d3x : W0.cell? ⟨b6, 3, none⟩ = some (.slice none 0 0) := by rw [Lib.cell_of_heap PX.out.r6]; rfl
  have d4x : W0.cell? ⟨b6, 4, none⟩ = some (.slice none 0 0) := by rw [Lib.cell_of_heap PX.out.r6]; rfl
  have d5x : W0.cell? ⟨b6, 5, none⟩ = some (.int .i64 0) := by rw [Lib.cell_of_heap PX.out.r6]; rfl
  have d6x : W0.cell? ⟨b6, 6, none⟩ = some (.int .i64 0) := by rw [Lib.cell_of_heap PX.out.r6]; rfl
  have d7x : W0.cell? ⟨b6, 7, none⟩ = some (.int .i64 0) := by rw [Lib.cell_of_heap PX.out.r6]; rfl
  have d8x : W0.cell? ⟨b6, 8, none⟩ = some (.int .i64 0) := by rw [Lib.cell_of_heap PX.out.r6]; rfl
  have f0x : W0.frozen? ⟨b6, 0, none⟩ = false := Lib.frozen_of_heap PX.out.r6 0
  have f1x : W0.frozen? ⟨b6, 1, none⟩ = false := Lib.frozen_of_heap PX.out.r6 1
  have f2x : W0.frozen? ⟨b6, 2, none⟩ = false := Lib.frozen_of_heap PX.out.r6 2
  have f3x : W0.frozen? ⟨b6, 3, none⟩ = false := Lib.frozen_of_heap PX.out.r6 3
  have f4x : W0.frozen? ⟨b6, 4, none⟩ = false := Lib.frozen_of_heap PX.out.r6 4
  have f5x : W0.frozen? ⟨b6, 5, none⟩ = false := Lib.frozen_of_heap PX.out.r6 5
  have f6x : W0.frozen? ⟨b6, 6, none⟩ = false := Lib.frozen_of_heap PX.out.r6 6
  have f7x : W0.frozen? ⟨b6, 7, none⟩ = false := Lib.frozen_of_heap PX.out.r6 7
  have f8x : W0.frozen? ⟨b6, 8, none⟩ = false := Lib.frozen_of_heap PX.out.r6 8
  have ne := PX.out.ne
  have ne2 : ¬ b7 = b6 := fun e => ne e.symm
  go_wp2_with fail
  obtain ⟨N9, HP⟩ := PX.out.done (W := (((((((((W0.setCell ⟨b6, 0, none⟩ (.int .i64 9)).setCell ⟨b6, 1, none⟩ (.string ⟨#[]⟩)).setCell ⟨b6, 2, none⟩ (.string ⟨a0.toArray⟩)).setCell ⟨b6, 3, none⟩ (.slice none 0 0)).setCell ⟨b6, 4, none⟩ (.slice none 0 0)).setCell ⟨b6, 5, none⟩ (.int .i64 0)).setCell ⟨b6, 6, none⟩ (.int .i64 0)).setCell ⟨b6, 7, none⟩ (.int .i64 0)).setCell ⟨b6, 8, none⟩ (.int .i64 pl))) rfl (plain_n L 9 pl i (by omega) G0.out).1.symm.symm (plain_n L 9 pl i (by omega) G0.out).2
  have HPP := Lib.hid HP
  clear HP c0x d0x f0x c1x d1x f1x c2x d2x f2x c3x d3x f3x c4x d4x f4x c5x d5x f5x c6x d6x f6x c7x d7x f7x c8x d8x f8x
  generalize (((((((((W0.setCell ⟨b6, 0, none⟩ (.int .i64 9)).setCell ⟨b6, 1, none⟩ (.string ⟨#[]⟩)).setCell ⟨b6, 2, none⟩ (.string ⟨a0.toArray⟩)).setCell ⟨b6, 3, none⟩ (.slice none 0 0)).setCell ⟨b6, 4, none⟩ (.slice none 0 0)).setCell ⟨b6, 5, none⟩ (.int .i64 0)).setCell ⟨b6, 6, none⟩ (.int .i64 0)).setCell ⟨b6, 7, none⟩ (.int .i64 0)).setCell ⟨b6, 8, none⟩ (.int .i64 pl)) = WW at *
  obtain ⟨_, q0, q1, q2, q3, q4, q5, q6, q7, q8⟩ := N9
  simp only [stm0] at q0 q1 q2 q3 q4 q5 q6 q7 q8
  refine bodyPost_ret (v := .agg #[.int .i64 9, .string ⟨#[]⟩, .string ⟨a0.toArray⟩, .slice none 0 0, .slice none 0 0, .int .i64 0, .int .i64 0, .int .i64 0, .int .i64 pl]) (by simp [results, Tryz.results70, go_sem, q0, q1, q2, q3, q4, q5, q6, q7, q8]) rfl ?_
  exact HPP.out
set_option maxRecDepth 100000 in
set_option maxHeartbeats 16000000 in
theorem dplain_10 (hs : Src L W0 lv) {i : Nat} (h : Sr L W0 g lv (.ok () i) K kv w) (pl : Int) : Calls Tryz.prog 70 #[.pointer (some ⟨g, 0, none⟩), .int .i64 10, .int .i64 pl] w (PlainPost L W0 g lv (plainP L 10 pl i) K kv w) := by
  have HC := Lib.hid hs
  have PX := Lib.hid (plain_begin h 10 pl)
  clear h hs
  go_enter Tryz.func70, Tryz.ntmps70
  go_upto_region 2 with (fail)
  generalize (w.alloc (.cells #[.int .i64 0, .string ⟨#[]⟩, .string ⟨#[]⟩, .slice none 0 0, .slice none 0 0, .int .i64 0, .int .i64 0, .int .i64 0, .int .i64 0] 31)).alloc (.cells #[.int .i64 10, .string ⟨#[]⟩, .string ⟨#[]⟩, .slice none 0 0, .slice none 0 0, .int .i64 0, .int .i64 0, .int .i64 0, .int .i64 pl] 31) = W at *
  generalize w.heap.size + 1 = b7 at *
  generalize w.heap.size = b6 at *
  go_wp2_with fail
  refine (dname HC.out PX.out.st).mono ?_
  rintro e0 w0 ⟨a0, rfl, hg0, hs0, hk0⟩
  have G0 := Lib.hid hg0
  replace PX := Lib.hid (PX.out.turn hs0 hk0)
  clear hs0 hk0 hg0
  have l0 := PX.out.lt7
  have u0 : w0.cell? ⟨b7, 2, none⟩ = some (.string ⟨#[]⟩) := PX.out.c7 rfl
  have y0 := PX.out.f7 2
  go_upto_region 33 with (fail)
  replace PX := Lib.hid (PX.out.put (j := 2) (v := .string ⟨a0.toArray⟩) (y := ⟨{ stm0 10 pl with name := a0 }, .slice none 0 0, .slice none 0 0⟩) rfl PX.out.re PX.out.rf)
  clear u0 y0 l0
  generalize w0.setCell ⟨b7, 2, none⟩ (.string ⟨a0.toArray⟩) = W0 at *
  have l6 := PX.out.lt6
  have l7 := PX.out.lt7
  have c0x : W0.cell? ⟨b7, 0, none⟩ = some (.int .i64 10) := PX.out.c7 rfl
  have c1x : W0.cell? ⟨b7, 1, none⟩ = some (.string ⟨#[]⟩) := PX.out.c7 rfl
  have c2x : W0.cell? ⟨b7, 2, none⟩ = some (.string ⟨a0.toArray⟩) := PX.out.c7 rfl
  have c3x : W0.cell? ⟨b7, 3, none⟩ = some (.slice none 0 0) := PX.out.c7 rfl
  have c4x : W0.cell? ⟨b7, 4, none⟩ = some (.slice none 0 0) := PX.out.c7 rfl
  have c5x : W0.cell? ⟨b7, 5, none⟩ = some (.int .i64 0) := PX.out.c7 rfl
  have c6x : W0.cell? ⟨b7, 6, none⟩ = some (.int .i64 0) := PX.out.c7 rfl
  have c7x : W0.cell? ⟨b7, 7, none⟩ = some (.int .i64 0) := PX.out.c7 rfl
  have c8x : W0.cell? ⟨b7, 8, none⟩ = some (.int .i64 pl) := PX.out.c7 rfl
  have d0x : W0.cell? ⟨b6, 0, none⟩ = some (.int .i64 0) := by rw [Lib.cell_of_heap PX.out.r6]; rfl
  have d1x : W0.cell? ⟨b6, 1, none⟩ = some (.string ⟨#[]⟩) := by rw [Lib.cell_of_heap PX.out.r6]; rfl
  have d2x : W0.cell? ⟨b6, 2, none⟩ = some (.string ⟨#[]⟩) := by rw [Lib.cell_of_heap PX.out.r6]; rfl
  have d3x : W0.cell? ⟨b6, 3, none⟩ = some (.slice none 0 0) := by rw [Lib.cell_of_heap PX.out.r6]; rfl
  have d4x : W0.cell? ⟨b6, 4, none⟩ = some (.slice none 0 0) := by rw [Lib.cell_of_heap PX.out.r6]; rfl
  have d5x : W0.cell? ⟨b6, 5, none⟩ = some (.int .i64 0) := by rw [Lib.cell_of_heap PX.out.r6]; rfl
  have d6x : W0.cell? ⟨b6, 6, none⟩ = some (.int .i64 0) := by rw [Lib.cell_of_heap PX.out.r6]; rfl
  have d7x : W0.cell? ⟨b6, 7, none⟩ = some (.int .i64 0) := by rw [Lib.cell_of_heap PX.out.r6]; rfl
  have d8x : W0.cell? ⟨b6, 8, none⟩ = some (.int .i64 0) := by rw [Lib.cell_of_heap PX.out.r6]; rfl
  have f0x : W0.frozen? ⟨b6, 0, none⟩ = false := Lib.frozen_of_heap PX.out.r6 0
  have f1x : W0.frozen? ⟨b6, 1, none⟩ = false := Lib.frozen_of_heap PX.out.r6 1
  have f2x : W0.frozen? ⟨b6, 2, none⟩ = false := Lib.frozen_of_heap PX.out.r6 2
  have f3x : W0.frozen? ⟨b6, 3, none⟩ = false := Lib.frozen_of_heap PX.out.r6 3
  have f4x : W0.frozen? ⟨b6, 4, none⟩ = false := Lib.frozen_of_heap PX.out.r6 4
  have f5x : W0.frozen? ⟨b6, 5, none⟩ = false := Lib.frozen_of_heap PX.out.r6 5
  have f6x : W0.frozen? ⟨b6, 6, none⟩ = false := Lib.frozen_of_heap PX.out.r6 6
  have f7x : W0.frozen? ⟨b6, 7, none⟩ = false := Lib.frozen_of_heap PX.out.r6 7
  have f8x : W0.frozen? ⟨b6, 8, none⟩ = false := Lib.frozen_of_heap PX.out.r6 8
  have ne := PX.out.ne
  have ne2 : ¬ b7 = b6 := fun e => ne e.symm
  go_wp2_with fail
  obtain ⟨N9, HP⟩ := PX.out.done (W := (((((((((W0.setCell ⟨b6, 0, none⟩ (.int .i64 10)).setCell ⟨b6, 1, none⟩ (.string ⟨#[]⟩)).setCell ⟨b6, 2, none⟩ (.string ⟨a0.toArray⟩)).setCell ⟨b6, 3, none⟩ (.slice none 0 0)).setCell ⟨b6, 4, none⟩ (.slice none 0 0)).setCell ⟨b6, 5, none⟩ (.int .i64 0)).setCell ⟨b6, 6, none⟩ (.int .i64 0)).setCell ⟨b6, 7, none⟩ (.int .i64 0)).setCell ⟨b6, 8, none⟩ (.int .i64 pl))) rfl (plain_n L 10 pl i (by omega) G0.out).1.symm.symm (plain_n L 10 pl i (by omega) G0.out).2
  have HPP := Lib.hid HP
  clear HP c0x d0x f0x c1x d1x f1x c2x d2x f2x c3x d3x f3x c4x d4x f4x c5x d5x f5x c6x d6x f6x c7x d7x f7x c8x d8x f8x
  generalize (((((((((W0.setCell ⟨b6, 0, none⟩ (.int .i64 10)).setCell ⟨b6, 1, none⟩ (.string ⟨#[]⟩)).setCell ⟨b6, 2, none⟩ (.string ⟨a0.toArray⟩)).setCell ⟨b6, 3, none⟩ (.slice none 0 0)).setCell ⟨b6, 4, none⟩ (.slice none 0 0)).setCell ⟨b6, 5, none⟩ (.int .i64 0)).setCell ⟨b6, 6, none⟩ (.int .i64 0)).setCell ⟨b6, 7, none⟩ (.int .i64 0)).setCell ⟨b6, 8, none⟩ (.int .i64 pl)) = WW at *
  obtain ⟨_, q0, q1, q2, q3, q4, q5, q6, q7, q8⟩ := N9
  simp only [stm0] at q0 q1 q2 q3 q4 q5 q6 q7 q8
  refine bodyPost_ret (v := .agg #[.int .i64 10, .string ⟨#[]⟩, .string ⟨a0.toArray⟩, .slice none 0 0, .slice none 0 0, .int .i64 0, .int .i64 0, .int .i64 0, .int .i64 pl]) (by simp [results, Tryz.results70, go_sem, q0, q1, q2, q3, q4, q5, q6, q7, q8]) rfl ?_
  exact HPP.out
set_option maxRecDepth 100000 in
set_option maxHeartbeats 16000000 in
theorem dplain_11 (hs : Src L W0 lv) {i : Nat} (h : Sr L W0 g lv (.ok () i) K kv w) (pl : Int) : Calls Tryz.prog 70 #[.pointer (some ⟨g, 0, none⟩), .int .i64 11, .int .i64 pl] w (PlainPost L W0 g lv (plainP L 11 pl i) K kv w) := by
  have HC := Lib.hid hs
  have PX := Lib.hid (plain_begin h 11 pl)
  clear h hs
  go_enter Tryz.func70, Tryz.ntmps70
  go_upto_region 2 with (fail)
  generalize (w.alloc (.cells #[.int .i64 0, .string ⟨#[]⟩, .string ⟨#[]⟩, .slice none 0 0, .slice none 0 0, .int .i64 0, .int .i64 0, .int .i64 0, .int .i64 0] 31)).alloc (.cells #[.int .i64 11, .string ⟨#[]⟩, .string ⟨#[]⟩, .slice none 0 0, .slice none 0 0, .int .i64 0, .int .i64 0, .int .i64 0, .int .i64 pl] 31) = W at *
  generalize w.heap.size + 1 = b7 at *
  generalize w.heap.size = b6 at *
  go_wp2_with fail
  refine (dexpr HC.out PX.out.st).mono ?_
  rintro e0 w0 ⟨v0, a0, rfl, hr0, hg0, hs0, hk0⟩
  obtain ⟨A0, c0, rfl, _⟩ := id hr0.rd
  have RE0 := Lib.hid hr0
  clear hr0
  have G0 := Lib.hid hg0
  replace PX := Lib.hid (PX.out.turn hs0 hk0)
  clear hs0 hk0 hg0
  have l0 := PX.out.lt7
  have u0 : w0.cell? ⟨b7, 3, none⟩ = some (.slice none 0 0) := PX.out.c7 rfl
  have y0 := PX.out.f7 3
  go_upto_region 33 with (fail)
  replace PX := Lib.hid (PX.out.put (j := 3) (v := .slice A0 a0.length c0) (y := ⟨{ stm0 11 pl with e := a0 }, .slice A0 a0.length c0, .slice none 0 0⟩) rfl RE0.out PX.out.rf)
  clear u0 y0 l0
  generalize w0.setCell ⟨b7, 3, none⟩ (.slice A0 a0.length c0) = W0 at *
  have l6 := PX.out.lt6
  have l7 := PX.out.lt7
  have c0x : W0.cell? ⟨b7, 0, none⟩ = some (.int .i64 11) := PX.out.c7 rfl
  have c1x : W0.cell? ⟨b7, 1, none⟩ = some (.string ⟨#[]⟩) := PX.out.c7 rfl
  have c2x : W0.cell? ⟨b7, 2, none⟩ = some (.string ⟨#[]⟩) := PX.out.c7 rfl
  have c3x : W0.cell? ⟨b7, 3, none⟩ = some (.slice A0 a0.length c0) := PX.out.c7 rfl
  have c4x : W0.cell? ⟨b7, 4, none⟩ = some (.slice none 0 0) := PX.out.c7 rfl
  have c5x : W0.cell? ⟨b7, 5, none⟩ = some (.int .i64 0) := PX.out.c7 rfl
  have c6x : W0.cell? ⟨b7, 6, none⟩ = some (.int .i64 0) := PX.out.c7 rfl
  have c7x : W0.cell? ⟨b7, 7, none⟩ = some (.int .i64 0) := PX.out.c7 rfl
  have c8x : W0.cell? ⟨b7, 8, none⟩ = some (.int .i64 pl) := PX.out.c7 rfl
  have d0x : W0.cell? ⟨b6, 0, none⟩ = some (.int .i64 0) := by rw [Lib.cell_of_heap PX.out.r6]; rfl
  have d1x : W0.cell? ⟨b6, 1, none⟩ = some (.string ⟨#[]⟩) := by rw [Lib.cell_of_heap PX.out.r6]; rfl
  have d2x : W0.cell? ⟨b6, 2, none⟩ = some (.string ⟨#[]⟩) := by rw [Lib.cell_of_heap PX.out.r6]; rfl
  have d3x : W0.cell? ⟨b6, 3, none⟩ = some (.slice none 0 0) := by rw [Lib.cell_of_heap PX.out.r6]; rfl
  have d4x : W0.cell? ⟨b6, 4, none⟩ = some (.slice none 0 0) := by rw [Lib.cell_of_heap PX.out.r6]; rfl
  have d5x : W0.cell? ⟨b6, 5, none⟩ = some (.int .i64 0) := by rw [Lib.cell_of_heap PX.out.r6]; rfl
  have d6x : W0.cell? ⟨b6, 6, none⟩ = some (.int .i64 0) := by rw [Lib.cell_of_heap PX.out.r6]; rfl
  have d7x : W0.cell? ⟨b6, 7, none⟩ = some (.int .i64 0) := by rw [Lib.cell_of_heap PX.out.r6]; rfl
  have d8x : W0.cell? ⟨b6, 8, none⟩ = some (.int .i64 0) := by rw [Lib.cell_of_heap PX.out.r6]; rfl
  have f0x : W0.frozen? ⟨b6, 0, none⟩ = false := Lib.frozen_of_heap PX.out.r6 0
  have f1x : W0.frozen? ⟨b6, 1, none⟩ = false := Lib.frozen_of_heap PX.out.r6 1
  have f2x : W0.frozen? ⟨b6, 2, none⟩ = false := Lib.frozen_of_heap PX.out.r6 2
  have f3x : W0.frozen? ⟨b6, 3, none⟩ = false := Lib.frozen_of_heap PX.out.r6 3
  have f4x : W0.frozen? ⟨b6, 4, none⟩ = false := Lib.frozen_of_heap PX.out.r6 4
  have f5x : W0.frozen? ⟨b6, 5, none⟩ = false := Lib.frozen_of_heap PX.out.r6 5
  have f6x : W0.frozen? ⟨b6, 6, none⟩ = false := Lib.frozen_of_heap PX.out.r6 6
  have f7x : W0.frozen? ⟨b6, 7, none⟩ = false := Lib.frozen_of_heap PX.out.r6 7
  have f8x : W0.frozen? ⟨b6, 8, none⟩ = false := Lib.frozen_of_heap PX.out.r6 8
  have ne := PX.out.ne
  have ne2 : ¬ b7 = b6 := fun e => ne e.symm
  go_wp2_with fail
  obtain ⟨N9, HP⟩ := PX.out.done (W := (((((((((W0.setCell ⟨b6, 0, none⟩ (.int .i64 11)).setCell ⟨b6, 1, none⟩ (.string ⟨#[]⟩)).setCell ⟨b6, 2, none⟩ (.string ⟨#[]⟩)).setCell ⟨b6, 3, none⟩ (.slice A0 a0.length c0)).setCell ⟨b6, 4, none⟩ (.slice none 0 0)).setCell ⟨b6, 5, none⟩ (.int .i64 0)).setCell ⟨b6, 6, none⟩ (.int .i64 0)).setCell ⟨b6, 7, none⟩ (.int .i64 0)).setCell ⟨b6, 8, none⟩ (.int .i64 pl))) rfl (plain_e L 11 pl i (by omega) G0.out).1.symm.symm (plain_e L 11 pl i (by omega) G0.out).2
  have HPP := Lib.hid HP
  clear HP c0x d0x f0x c1x d1x f1x c2x d2x f2x c3x d3x f3x c4x d4x f4x c5x d5x f5x c6x d6x f6x c7x d7x f7x c8x d8x f8x
  generalize (((((((((W0.setCell ⟨b6, 0, none⟩ (.int .i64 11)).setCell ⟨b6, 1, none⟩ (.string ⟨#[]⟩)).setCell ⟨b6, 2, none⟩ (.string ⟨#[]⟩)).setCell ⟨b6, 3, none⟩ (.slice A0 a0.length c0)).setCell ⟨b6, 4, none⟩ (.slice none 0 0)).setCell ⟨b6, 5, none⟩ (.int .i64 0)).setCell ⟨b6, 6, none⟩ (.int .i64 0)).setCell ⟨b6, 7, none⟩ (.int .i64 0)).setCell ⟨b6, 8, none⟩ (.int .i64 pl)) = WW at *
  obtain ⟨_, q0, q1, q2, q3, q4, q5, q6, q7, q8⟩ := N9
  simp only [stm0] at q0 q1 q2 q3 q4 q5 q6 q7 q8
  refine bodyPost_ret (v := .agg #[.int .i64 11, .string ⟨#[]⟩, .string ⟨#[]⟩, .slice A0 a0.length c0, .slice none 0 0, .int .i64 0, .int .i64 0, .int .i64 0, .int .i64 pl]) (by simp [results, Tryz.results70, go_sem, q0, q1, q2, q3, q4, q5, q6, q7, q8]) rfl ?_
  exact HPP.out
set_option maxRecDepth 100000 in
set_option maxHeartbeats 16000000 in
theorem dplain_14 (hs : Src L W0 lv) {i : Nat} (h : Sr L W0 g lv (.ok () i) K kv w) (pl : Int) : Calls Tryz.prog 70 #[.pointer (some ⟨g, 0, none⟩), .int .i64 14, .int .i64 pl] w (PlainPost L W0 g lv (plainP L 14 pl i) K kv w) := by
  have HC := Lib.hid hs
  have PX := Lib.hid (plain_begin h 14 pl)
  clear h hs
  go_enter Tryz.func70, Tryz.ntmps70
  go_upto_region 2 with (fail)
  generalize (w.alloc (.cells #[.int .i64 0, .string ⟨#[]⟩, .string ⟨#[]⟩, .slice none 0 0, .slice none 0 0, .int .i64 0, .int .i64 0, .int .i64 0, .int .i64 0] 31)).alloc (.cells #[.int .i64 14, .string ⟨#[]⟩, .string ⟨#[]⟩, .slice none 0 0, .slice none 0 0, .int .i64 0, .int .i64 0, .int .i64 0, .int .i64 pl] 31) = W at *
  generalize w.heap.size + 1 = b7 at *
  generalize w.heap.size = b6 at *
  go_wp2_with fail
  refine (dexpr HC.out PX.out.st).mono ?_
  rintro e0 w0 ⟨v0, a0, rfl, hr0, hg0, hs0, hk0⟩
  obtain ⟨A0, c0, rfl, _⟩ := id hr0.rd
  have RE0 := Lib.hid hr0
  clear hr0
  have G0 := Lib.hid hg0
  replace PX := Lib.hid (PX.out.turn hs0 hk0)
  clear hs0 hk0 hg0
  have l0 := PX.out.lt7
  have u0 : w0.cell? ⟨b7, 3, none⟩ = some (.slice none 0 0) := PX.out.c7 rfl
  have y0 := PX.out.f7 3
  go_upto_region 33 with (fail)
  replace PX := Lib.hid (PX.out.put (j := 3) (v := .slice A0 a0.length c0) (y := ⟨{ stm0 14 pl with e := a0 }, .slice A0 a0.length c0, .slice none 0 0⟩) rfl RE0.out PX.out.rf)
  clear u0 y0 l0
  generalize w0.setCell ⟨b7, 3, none⟩ (.slice A0 a0.length c0) = W0 at *
  have l6 := PX.out.lt6
  have l7 := PX.out.lt7
  have c0x : W0.cell? ⟨b7, 0, none⟩ = some (.int .i64 14) := PX.out.c7 rfl
  have c1x : W0.cell? ⟨b7, 1, none⟩ = some (.string ⟨#[]⟩) := PX.out.c7 rfl
  have c2x : W0.cell? ⟨b7, 2, none⟩ = some (.string ⟨#[]⟩) := PX.out.c7 rfl
  have c3x : W0.cell? ⟨b7, 3, none⟩ = some (.slice A0 a0.length c0) := PX.out.c7 rfl
  have c4x : W0.cell? ⟨b7, 4, none⟩ = some (.slice none 0 0) := PX.out.c7 rfl
  have c5x : W0.cell? ⟨b7, 5, none⟩ = some (.int .i64 0) := PX.out.c7 rfl
  have c6x : W0.cell? ⟨b7, 6, none⟩ = some (.int .i64 0) := PX.out.c7 rfl
  have c7x : W0.cell? ⟨b7, 7, none⟩ = some (.int .i64 0) := PX.out.c7 rfl
  have c8x : W0.cell? ⟨b7, 8, none⟩ = some (.int .i64 pl) := PX.out.c7 rfl
  have d0x : W0.cell? ⟨b6, 0, none⟩ = some (.int .i64 0) := by rw [Lib.cell_of_heap PX.out.r6]; rfl
  have d1x : W0.cell? ⟨b6, 1, none⟩ = some (.string ⟨#[]⟩) := by rw [Lib.cell_of_heap PX.out.r6]; rfl
  have d2x : W0.cell? ⟨b6, 2, none⟩ = some (.string ⟨#[]⟩) := by rw [Lib.cell_of_heap PX.out.r6]; rfl
  have d3x : W0.cell? ⟨b6, 3, none⟩ = some (.slice none 0 0) := by rw [Lib.cell_of_heap PX.out.r6]; rfl
  have d4x : W0.cell? ⟨b6, 4, none⟩ = some (.slice none 0 0) := by rw [Lib.cell_of_heap PX.out.r6]; rfl
  have d5x : W0.cell? ⟨b6, 5, none⟩ = some (.int .i64 0) := by rw [Lib.cell_of_heap PX.out.r6]; rfl
  have d6x : W0.cell? ⟨b6, 6, none⟩ = some (.int .i64 0) := by rw [Lib.cell_of_heap PX.out.r6]; rfl
  have d7x : W0.cell? ⟨b6, 7, none⟩ = some (.int .i64 0) := by rw [Lib.cell_of_heap PX.out.r6]; rfl
  have d8x : W0.cell? ⟨b6, 8, none⟩ = some (.int .i64 0) := by rw [Lib.cell_of_heap PX.out.r6]; rfl
  have f0x : W0.frozen? ⟨b6, 0, none⟩ = false := Lib.frozen_of_heap PX.out.r6 0
  have f1x : W0.frozen? ⟨b6, 1, none⟩ = false := Lib.frozen_of_heap PX.out.r6 1
  have f2x : W0.frozen? ⟨b6, 2, none⟩ = false := Lib.frozen_of_heap PX.out.r6 2
  have f3x : W0.frozen? ⟨b6, 3, none⟩ = false := Lib.frozen_of_heap PX.out.r6 3
  have f4x : W0.frozen? ⟨b6, 4, none⟩ = false := Lib.frozen_of_heap PX.out.r6 4
  have f5x : W0.frozen? ⟨b6, 5, none⟩ = false := Lib.frozen_of_heap PX.out.r6 5
  have f6x : W0.frozen? ⟨b6, 6, none⟩ = false := Lib.frozen_of_heap PX.out.r6 6
  have f7x : W0.frozen? ⟨b6, 7, none⟩ = false := Lib.frozen_of_heap PX.out.r6 7
  have f8x : W0.frozen? ⟨b6, 8, none⟩ = false := Lib.frozen_of_heap PX.out.r6 8
  have ne := PX.out.ne
  have ne2 : ¬ b7 = b6 := fun e => ne e.symm
  go_wp2_with fail
  obtain ⟨N9, HP⟩ := PX.out.done (W := (((((((((W0.setCell ⟨b6, 0, none⟩ (.int .i64 14)).setCell ⟨b6, 1, none⟩ (.string ⟨#[]⟩)).setCell ⟨b6, 2, none⟩ (.string ⟨#[]⟩)).setCell ⟨b6, 3, none⟩ (.slice A0 a0.length c0)).setCell ⟨b6, 4, none⟩ (.slice none 0 0)).setCell ⟨b6, 5, none⟩ (.int .i64 0)).setCell ⟨b6, 6, none⟩ (.int .i64 0)).setCell ⟨b6, 7, none⟩ (.int .i64 0)).setCell ⟨b6, 8, none⟩ (.int .i64 pl))) rfl (plain_e L 14 pl i (by omega) G0.out).1.symm.symm (plain_e L 14 pl i (by omega) G0.out).2
  have HPP := Lib.hid HP
  clear HP c0x d0x f0x c1x d1x f1x c2x d2x f2x c3x d3x f3x c4x d4x f4x c5x d5x f5x c6x d6x f6x c7x d7x f7x c8x d8x f8x
  generalize (((((((((W0.setCell ⟨b6, 0, none⟩ (.int .i64 14)).setCell ⟨b6, 1, none⟩ (.string ⟨#[]⟩)).setCell ⟨b6, 2, none⟩ (.string ⟨#[]⟩)).setCell ⟨b6, 3, none⟩ (.slice A0 a0.length c0)).setCell ⟨b6, 4, none⟩ (.slice none 0 0)).setCell ⟨b6, 5, none⟩ (.int .i64 0)).setCell ⟨b6, 6, none⟩ (.int .i64 0)).setCell ⟨b6, 7, none⟩ (.int .i64 0)).setCell ⟨b6, 8, none⟩ (.int .i64 pl)) = WW at *
  obtain ⟨_, q0, q1, q2, q3, q4, q5, q6, q7, q8⟩ := N9
  simp only [stm0] at q0 q1 q2 q3 q4 q5 q6 q7 q8
  refine bodyPost_ret (v := .agg #[.int .i64 14, .string ⟨#[]⟩, .string ⟨#[]⟩, .slice A0 a0.length c0, .slice none 0 0, .int .i64 0, .int .i64 0, .int .i64 0, .int .i64 pl]) (by simp [results, Tryz.results70, go_sem, q0, q1, q2, q3, q4, q5, q6, q7, q8]) rfl ?_
  exact HPP.out
set_option maxRecDepth 100000 in
set_option maxHeartbeats 16000000 in
theorem dplain_12 (hs : Src L W0 lv) {i : Nat} (h : Sr L W0 g lv (.ok () i) K kv w) (pl : Int) : Calls Tryz.prog 70 #[.pointer (some ⟨g, 0, none⟩), .int .i64 12, .int .i64 pl] w (PlainPost L W0 g lv (plainP L 12 pl i) K kv w) := by
  have HC := Lib.hid hs
  have PX := Lib.hid (plain_begin h 12 pl)
  clear h hs
  go_enter Tryz.func70, Tryz.ntmps70
  go_upto_region 2 with (fail)
  generalize (w.alloc (.cells #[.int .i64 0, .string ⟨#[]⟩, .string ⟨#[]⟩, .slice none 0 0, .slice none 0 0, .int .i64 0, .int .i64 0, .int .i64 0, .int .i64 0] 31)).alloc (.cells #[.int .i64 12, .string ⟨#[]⟩, .string ⟨#[]⟩, .slice none 0 0, .slice none 0 0, .int .i64 0, .int .i64 0, .int .i64 0, .int .i64 pl] 31) = W at *
  generalize w.heap.size + 1 = b7 at *
  generalize w.heap.size = b6 at *
  go_wp2_with fail
  refine (dtimes HC.out PX.out.st).mono ?_
  rintro e0 w0 ⟨a0, rfl, hg0, hs0, hk0⟩
  have G0 := Lib.hid hg0
  replace PX := Lib.hid (PX.out.turn hs0 hk0)
  clear hs0 hk0 hg0
  have l0 := PX.out.lt7
  have u0 : w0.cell? ⟨b7, 5, none⟩ = some (.int .i64 0) := PX.out.c7 rfl
  have y0 := PX.out.f7 5
  go_upto_region 33 with (fail)
  replace PX := Lib.hid (PX.out.put (j := 5) (v := .int .i64 a0) (y := ⟨{ stm0 12 pl with n := a0 }, .slice none 0 0, .slice none 0 0⟩) rfl PX.out.re PX.out.rf)
  clear u0 y0 l0
  generalize w0.setCell ⟨b7, 5, none⟩ (.int .i64 a0) = W0 at *
  have l6 := PX.out.lt6
  have l7 := PX.out.lt7
  have c0x : W0.cell? ⟨b7, 0, none⟩ = some (.int .i64 12) := PX.out.c7 rfl
  have c1x : W0.cell? ⟨b7, 1, none⟩ = some (.string ⟨#[]⟩) := PX.out.c7 rfl
  have c2x : W0.cell? ⟨b7, 2, none⟩ = some (.string ⟨#[]⟩) := PX.out.c7 rfl
  have c3x : W0.cell? ⟨b7, 3, none⟩ = some (.slice none 0 0) := PX.out.c7 rfl
  have c4x : W0.cell? ⟨b7, 4, none⟩ = some (.slice none 0 0) := PX.out.c7 rfl
  have c5x : W0.cell? ⟨b7, 5, none⟩ = some (.int .i64 a0) := PX.out.c7 rfl
  have c6x : W0.cell? ⟨b7, 6, none⟩ = some (.int .i64 0) := PX.out.c7 rfl
  have c7x : W0.cell? ⟨b7, 7, none⟩ = some (.int .i64 0) := PX.out.c7 rfl
  have c8x : W0.cell? ⟨b7, 8, none⟩ = some (.int .i64 pl) := PX.out.c7 rfl
  have d0x : W0.cell? ⟨b6, 0, none⟩ = some (.int .i64 0) := by rw [Lib.cell_of_heap PX.out.r6]; rfl
  have d1x : W0.cell? ⟨b6, 1, none⟩ = some (.string ⟨#[]⟩) := by rw [Lib.cell_of_heap PX.out.r6]; rfl
  have d2x : W0.cell? ⟨b6, 2, none⟩ = some (.string ⟨#[]⟩) := by rw [Lib.cell_of_heap PX.out.r6]; rfl
  have d3x : W0.cell? ⟨b6, 3, none⟩ = some (.slice none 0 0) := by rw [Lib.cell_of_heap PX.out.r6]; rfl
  have d4x : W0.cell? ⟨b6, 4, none⟩ = some (.slice none 0 0) := by rw [Lib.cell_of_heap PX.out.r6]; rfl
  have d5x : W0.cell? ⟨b6, 5, none⟩ = some (.int .i64 0) := by rw [Lib.cell_of_heap PX.out.r6]; rfl
  have d6x : W0.cell? ⟨b6, 6, none⟩ = some (.int .i64 0) := by rw [Lib.cell_of_heap PX.out.r6]; rfl
  have d7x : W0.cell? ⟨b6, 7, none⟩ = some (.int .i64 0) := by rw [Lib.cell_of_heap PX.out.r6]; rfl
  have d8x : W0.cell? ⟨b6, 8, none⟩ = some (.int .i64 0) := by rw [Lib.cell_of_heap PX.out.r6]; rfl
  have f0x : W0.frozen? ⟨b6, 0, none⟩ = false := Lib.frozen_of_heap PX.out.r6 0
  have f1x : W0.frozen? ⟨b6, 1, none⟩ = false := Lib.frozen_of_heap PX.out.r6 1
  have f2x : W0.frozen? ⟨b6, 2, none⟩ = false := Lib.frozen_of_heap PX.out.r6 2
  have f3x : W0.frozen? ⟨b6, 3, none⟩ = false := Lib.frozen_of_heap PX.out.r6 3
  have f4x : W0.frozen? ⟨b6, 4, none⟩ = false := Lib.frozen_of_heap PX.out.r6 4
  have f5x : W0.frozen? ⟨b6, 5, none⟩ = false := Lib.frozen_of_heap PX.out.r6 5
  have f6x : W0.frozen? ⟨b6, 6, none⟩ = false := Lib.frozen_of_heap PX.out.r6 6
  have f7x : W0.frozen? ⟨b6, 7, none⟩ = false := Lib.frozen_of_heap PX.out.r6 7
  have f8x : W0.frozen? ⟨b6, 8, none⟩ = false := Lib.frozen_of_heap PX.out.r6 8
  have ne := PX.out.ne
  have ne2 : ¬ b7 = b6 := fun e => ne e.symm
  go_wp2_with fail
  obtain ⟨N9, HP⟩ := PX.out.done (W := (((((((((W0.setCell ⟨b6, 0, none⟩ (.int .i64 12)).setCell ⟨b6, 1, none⟩ (.string ⟨#[]⟩)).setCell ⟨b6, 2, none⟩ (.string ⟨#[]⟩)).setCell ⟨b6, 3, none⟩ (.slice none 0 0)).setCell ⟨b6, 4, none⟩ (.slice none 0 0)).setCell ⟨b6, 5, none⟩ (.int .i64 a0)).setCell ⟨b6, 6, none⟩ (.int .i64 0)).setCell ⟨b6, 7, none⟩ (.int .i64 0)).setCell ⟨b6, 8, none⟩ (.int .i64 pl))) rfl (plain_t L 12 pl i rfl G0.out).1.symm.symm (plain_t L 12 pl i rfl G0.out).2
  have HPP := Lib.hid HP
  clear HP c0x d0x f0x c1x d1x f1x c2x d2x f2x c3x d3x f3x c4x d4x f4x c5x d5x f5x c6x d6x f6x c7x d7x f7x c8x d8x f8x
  generalize (((((((((W0.setCell ⟨b6, 0, none⟩ (.int .i64 12)).setCell ⟨b6, 1, none⟩ (.string ⟨#[]⟩)).setCell ⟨b6, 2, none⟩ (.string ⟨#[]⟩)).setCell ⟨b6, 3, none⟩ (.slice none 0 0)).setCell ⟨b6, 4, none⟩ (.slice none 0 0)).setCell ⟨b6, 5, none⟩ (.int .i64 a0)).setCell ⟨b6, 6, none⟩ (.int .i64 0)).setCell ⟨b6, 7, none⟩ (.int .i64 0)).setCell ⟨b6, 8, none⟩ (.int .i64 pl)) = WW at *
  obtain ⟨_, q0, q1, q2, q3, q4, q5, q6, q7, q8⟩ := N9
  simp only [stm0] at q0 q1 q2 q3 q4 q5 q6 q7 q8
  refine bodyPost_ret (v := .agg #[.int .i64 12, .string ⟨#[]⟩, .string ⟨#[]⟩, .slice none 0 0, .slice none 0 0, .int .i64 a0, .int .i64 0, .int .i64 0, .int .i64 pl]) (by simp [results, Tryz.results70, go_sem, q0, q1, q2, q3, q4, q5, q6, q7, q8]) rfl ?_
  exact HPP.out
set_option maxRecDepth 100000 in
set_option maxHeartbeats 16000000 in
theorem dplain_7 (hs : Src L W0 lv) {i : Nat} (h : Sr L W0 g lv (.ok () i) K kv w) (pl : Int) : Calls Tryz.prog 70 #[.pointer (some ⟨g, 0, none⟩), .int .i64 7, .int .i64 pl] w (PlainPost L W0 g lv (plainP L 7 pl i) K kv w) := by
  have HC := Lib.hid hs
  have PX := Lib.hid (plain_begin h 7 pl)
  clear h hs
  go_enter Tryz.func70, Tryz.ntmps70
  go_upto_region 2 with (fail)
  generalize (w.alloc (.cells #[.int .i64 0, .string ⟨#[]⟩, .string ⟨#[]⟩, .slice none 0 0, .slice none 0 0, .int .i64 0, .int .i64 0, .int .i64 0, .int .i64 0] 31)).alloc (.cells #[.int .i64 7, .string ⟨#[]⟩, .string ⟨#[]⟩, .slice none 0 0, .slice none 0 0, .int .i64 0, .int .i64 0, .int .i64 0, .int .i64 pl] 31) = W at *
  generalize w.heap.size + 1 = b7 at *
  generalize w.heap.size = b6 at *
  go_upto_region 33 with (fail)
  have l6 := PX.out.lt6
  have l7 := PX.out.lt7
  have c0x : W.cell? ⟨b7, 0, none⟩ = some (.int .i64 7) := PX.out.c7 rfl
  have c1x : W.cell? ⟨b7, 1, none⟩ = some (.string ⟨#[]⟩) := PX.out.c7 rfl
  have c2x : W.cell? ⟨b7, 2, none⟩ = some (.string ⟨#[]⟩) := PX.out.c7 rfl
  have c3x : W.cell? ⟨b7, 3, none⟩ = some (.slice none 0 0) := PX.out.c7 rfl
  have c4x : W.cell? ⟨b7, 4, none⟩ = some (.slice none 0 0) := PX.out.c7 rfl
  have c5x : W.cell? ⟨b7, 5, none⟩ = some (.int .i64 0) := PX.out.c7 rfl
  have c6x : W.cell? ⟨b7, 6, none⟩ = some (.int .i64 0) := PX.out.c7 rfl
  have c7x : W.cell? ⟨b7, 7, none⟩ = some (.int .i64 0) := PX.out.c7 rfl
  have c8x : W.cell? ⟨b7, 8, none⟩ = some (.int .i64 pl) := PX.out.c7 rfl
  have d0x : W.cell? ⟨b6, 0, none⟩ = some (.int .i64 0) := by rw [Lib.cell_of_heap PX.out.r6]; rfl
  have d1x : W.cell? ⟨b6, 1, none⟩ = some (.string ⟨#[]⟩) := by rw [Lib.cell_of_heap PX.out.r6]; rfl
  have d2x : W.cell? ⟨b6, 2, none⟩ = some (.string ⟨#[]⟩) := by rw [Lib.cell_of_heap PX.out.r6]; rfl
  have d3x : W.cell? ⟨b6, 3, none⟩ = some (.slice none 0 0) := by rw [Lib.cell_of_heap PX.out.r6]; rfl
  have d4x : W.cell? ⟨b6, 4, none⟩ = some (.slice none 0 0) := by rw [Lib.cell_of_heap PX.out.r6]; rfl
  have d5x : W.cell? ⟨b6, 5, none⟩ = some (.int .i64 0) := by rw [Lib.cell_of_heap PX.out.r6]; rfl
  have d6x : W.cell? ⟨b6, 6, none⟩ = some (.int .i64 0) := by rw [Lib.cell_of_heap PX.out.r6]; rfl
  have d7x : W.cell? ⟨b6, 7, none⟩ = some (.int .i64 0) := by rw [Lib.cell_of_heap PX.out.r6]; rfl
  have d8x : W.cell? ⟨b6, 8, none⟩ = some (.int .i64 0) := by rw [Lib.cell_of_heap PX.out.r6]; rfl
  have f0x : W.frozen? ⟨b6, 0, none⟩ = false := Lib.frozen_of_heap PX.out.r6 0
  have f1x : W.frozen? ⟨b6, 1, none⟩ = false := Lib.frozen_of_heap PX.out.r6 1
  have f2x : W.frozen? ⟨b6, 2, none⟩ = false := Lib.frozen_of_heap PX.out.r6 2
  have f3x : W.frozen? ⟨b6, 3, none⟩ = false := Lib.frozen_of_heap PX.out.r6 3
  have f4x : W.frozen? ⟨b6, 4, none⟩ = false := Lib.frozen_of_heap PX.out.r6 4
  have f5x : W.frozen? ⟨b6, 5, none⟩ = false := Lib.frozen_of_heap PX.out.r6 5
  have f6x : W.frozen? ⟨b6, 6, none⟩ = false := Lib.frozen_of_heap PX.out.r6 6
  have f7x : W.frozen? ⟨b6, 7, none⟩ = false := Lib.frozen_of_heap PX.out.r6 7
  have f8x : W.frozen? ⟨b6, 8, none⟩ = false := Lib.frozen_of_heap PX.out.r6 8
  have ne := PX.out.ne
  have ne2 : ¬ b7 = b6 := fun e => ne e.symm
  go_wp2_with fail
  obtain ⟨N9, HP⟩ := PX.out.done (W := (((((((((W.setCell ⟨b6, 0, none⟩ (.int .i64 7)).setCell ⟨b6, 1, none⟩ (.string ⟨#[]⟩)).setCell ⟨b6, 2, none⟩ (.string ⟨#[]⟩)).setCell ⟨b6, 3, none⟩ (.slice none 0 0)).setCell ⟨b6, 4, none⟩ (.slice none 0 0)).setCell ⟨b6, 5, none⟩ (.int .i64 0)).setCell ⟨b6, 6, none⟩ (.int .i64 0)).setCell ⟨b6, 7, none⟩ (.int .i64 0)).setCell ⟨b6, 8, none⟩ (.int .i64 pl))) rfl (plain_o L 7 pl i (by omega) ).1.symm.symm (plain_o L 7 pl i (by omega) ).2
  have HPP := Lib.hid HP
  clear HP c0x d0x f0x c1x d1x f1x c2x d2x f2x c3x d3x f3x c4x d4x f4x c5x d5x f5x c6x d6x f6x c7x d7x f7x c8x d8x f8x
  generalize (((((((((W.setCell ⟨b6, 0, none⟩ (.int .i64 7)).setCell ⟨b6, 1, none⟩ (.string ⟨#[]⟩)).setCell ⟨b6, 2, none⟩ (.string ⟨#[]⟩)).setCell ⟨b6, 3, none⟩ (.slice none 0 0)).setCell ⟨b6, 4, none⟩ (.slice none 0 0)).setCell ⟨b6, 5, none⟩ (.int .i64 0)).setCell ⟨b6, 6, none⟩ (.int .i64 0)).setCell ⟨b6, 7, none⟩ (.int .i64 0)).setCell ⟨b6, 8, none⟩ (.int .i64 pl)) = WW at *
  obtain ⟨_, q0, q1, q2, q3, q4, q5, q6, q7, q8⟩ := N9
  simp only [sv0, stm0] at q0 q1 q2 q3 q4 q5 q6 q7 q8
  refine bodyPost_ret (v := .agg #[.int .i64 7, .string ⟨#[]⟩, .string ⟨#[]⟩, .slice none 0 0, .slice none 0 0, .int .i64 0, .int .i64 0, .int .i64 0, .int .i64 pl]) (by simp [results, Tryz.results70, go_sem, q0, q1, q2, q3, q4, q5, q6, q7, q8]) rfl ?_
  exact HPP.out
set_option maxRecDepth 100000 in
set_option maxHeartbeats 16000000 in
theorem dplain_8 (hs : Src L W0 lv) {i : Nat} (h : Sr L W0 g lv (.ok () i) K kv w) (pl : Int) : Calls Tryz.prog 70 #[.pointer (some ⟨g, 0, none⟩), .int .i64 8, .int .i64 pl] w (PlainPost L W0 g lv (plainP L 8 pl i) K kv w) := by
  have HC := Lib.hid hs
  have PX := Lib.hid (plain_begin h 8 pl)
  clear h hs
  go_enter Tryz.func70, Tryz.ntmps70
  go_upto_region 2 with (fail)
  generalize (w.alloc (.cells #[.int .i64 0, .string ⟨#[]⟩, .string ⟨#[]⟩, .slice none 0 0, .slice none 0 0, .int .i64 0, .int .i64 0, .int .i64 0, .int .i64 0] 31)).alloc (.cells #[.int .i64 8, .string ⟨#[]⟩, .string ⟨#[]⟩, .slice none 0 0, .slice none 0 0, .int .i64 0, .int .i64 0, .int .i64 0, .int .i64 pl] 31) = W at *
  generalize w.heap.size + 1 = b7 at *
  generalize w.heap.size = b6 at *
  go_upto_region 33 with (fail)
  have l6 := PX.out.lt6
  have l7 := PX.out.lt7
  have c0x : W.cell? ⟨b7, 0, none⟩ = some (.int .i64 8) := PX.out.c7 rfl
  have c1x : W.cell? ⟨b7, 1, none⟩ = some (.string ⟨#[]⟩) := PX.out.c7 rfl
  have c2x : W.cell? ⟨b7, 2, none⟩ = some (.string ⟨#[]⟩) := PX.out.c7 rfl
  have c3x : W.cell? ⟨b7, 3, none⟩ = some (.slice none 0 0) := PX.out.c7 rfl
  have c4x : W.cell? ⟨b7, 4, none⟩ = some (.slice none 0 0) := PX.out.c7 rfl
  have c5x : W.cell? ⟨b7, 5, none⟩ = some (.int .i64 0) := PX.out.c7 rfl
  have c6x : W.cell? ⟨b7, 6, none⟩ = some (.int .i64 0) := PX.out.c7 rfl
  have c7x : W.cell? ⟨b7, 7, none⟩ = some (.int .i64 0) := PX.out.c7 rfl
  have c8x : W.cell? ⟨b7, 8, none⟩ = some (.int .i64 pl) := PX.out.c7 rfl
  have d0x : W.cell? ⟨b6, 0, none⟩ = some (.int .i64 0) := by rw [Lib.cell_of_heap PX.out.r6]; rfl
  have d1x : W.cell? ⟨b6, 1, none⟩ = some (.string ⟨#[]⟩) := by rw [Lib.cell_of_heap PX.out.r6]; rfl
  have d2x : W.cell? ⟨b6, 2, none⟩ = some (.string ⟨#[]⟩) := by rw [Lib.cell_of_heap PX.out.r6]; rfl
  have d3x : W.cell? ⟨b6, 3, none⟩ = some (.slice none 0 0) := by rw [Lib.cell_of_heap PX.out.r6]; rfl
  have d4x : W.cell? ⟨b6, 4, none⟩ = some (.slice none 0 0) := by rw [Lib.cell_of_heap PX.out.r6]; rfl
  have d5x : W.cell? ⟨b6, 5, none⟩ = some (.int .i64 0) := by rw [Lib.cell_of_heap PX.out.r6]; rfl
  have d6x : W.cell? ⟨b6, 6, none⟩ = some (.int .i64 0) := by rw [Lib.cell_of_heap PX.out.r6]; rfl
  have d7x : W.cell? ⟨b6, 7, none⟩ = some (.int .i64 0) := by rw [Lib.cell_of_heap PX.out.r6]; rfl
  have d8x : W.cell? ⟨b6, 8, none⟩ = some (.int .i64 0) := by rw [Lib.cell_of_heap PX.out.r6]; rfl
  have f0x : W.frozen? ⟨b6, 0, none⟩ = false := Lib.frozen_of_heap PX.out.r6 0
  have f1x : W.frozen? ⟨b6, 1, none⟩ = false := Lib.frozen_of_heap PX.out.r6 1
  have f2x : W.frozen? ⟨b6, 2, none⟩ = false := Lib.frozen_of_heap PX.out.r6 2
  have f3x : W.frozen? ⟨b6, 3, none⟩ = false := Lib.frozen_of_heap PX.out.r6 3
  have f4x : W.frozen? ⟨b6, 4, none⟩ = false := Lib.frozen_of_heap PX.out.r6 4
  have f5x : W.frozen? ⟨b6, 5, none⟩ = false := Lib.frozen_of_heap PX.out.r6 5
  have f6x : W.frozen? ⟨b6, 6, none⟩ = false := Lib.frozen_of_heap PX.out.r6 6
  have f7x : W.frozen? ⟨b6, 7, none⟩ = false := Lib.frozen_of_heap PX.out.r6 7
  have f8x : W.frozen? ⟨b6, 8, none⟩ = false := Lib.frozen_of_heap PX.out.r6 8
  have ne := PX.out.ne
  have ne2 : ¬ b7 = b6 := fun e => ne e.symm
  go_wp2_with fail
  obtain ⟨N9, HP⟩ := PX.out.done (W := (((((((((W.setCell ⟨b6, 0, none⟩ (.int .i64 8)).setCell ⟨b6, 1, none⟩ (.string ⟨#[]⟩)).setCell ⟨b6, 2, none⟩ (.string ⟨#[]⟩)).setCell ⟨b6, 3, none⟩ (.slice none 0 0)).setCell ⟨b6, 4, none⟩ (.slice none 0 0)).setCell ⟨b6, 5, none⟩ (.int .i64 0)).setCell ⟨b6, 6, none⟩ (.int .i64 0)).setCell ⟨b6, 7, none⟩ (.int .i64 0)).setCell ⟨b6, 8, none⟩ (.int .i64 pl))) rfl (plain_o L 8 pl i (by omega) ).1.symm.symm (plain_o L 8 pl i (by omega) ).2
  have HPP := Lib.hid HP
  clear HP c0x d0x f0x c1x d1x f1x c2x d2x f2x c3x d3x f3x c4x d4x f4x c5x d5x f5x c6x d6x f6x c7x d7x f7x c8x d8x f8x
  generalize (((((((((W.setCell ⟨b6, 0, none⟩ (.int .i64 8)).setCell ⟨b6, 1, none⟩ (.string ⟨#[]⟩)).setCell ⟨b6, 2, none⟩ (.string ⟨#[]⟩)).setCell ⟨b6, 3, none⟩ (.slice none 0 0)).setCell ⟨b6, 4, none⟩ (.slice none 0 0)).setCell ⟨b6, 5, none⟩ (.int .i64 0)).setCell ⟨b6, 6, none⟩ (.int .i64 0)).setCell ⟨b6, 7, none⟩ (.int .i64 0)).setCell ⟨b6, 8, none⟩ (.int .i64 pl)) = WW at *
  obtain ⟨_, q0, q1, q2, q3, q4, q5, q6, q7, q8⟩ := N9
  simp only [sv0, stm0] at q0 q1 q2 q3 q4 q5 q6 q7 q8
  refine bodyPost_ret (v := .agg #[.int .i64 8, .string ⟨#[]⟩, .string ⟨#[]⟩, .slice none 0 0, .slice none 0 0, .int .i64 0, .int .i64 0, .int .i64 0, .int .i64 pl]) (by simp [results, Tryz.results70, go_sem, q0, q1, q2, q3, q4, q5, q6, q7, q8]) rfl ?_
  exact HPP.out
set_option maxRecDepth 100000 in
set_option maxHeartbeats 16000000 in
theorem dplain_13 (hs : Src L W0 lv) {i : Nat} (h : Sr L W0 g lv (.ok () i) K kv w) (pl : Int) : Calls Tryz.prog 70 #[.pointer (some ⟨g, 0, none⟩), .int .i64 13, .int .i64 pl] w (PlainPost L W0 g lv (plainP L 13 pl i) K kv w) := by
  have HC := Lib.hid hs
  have PX := Lib.hid (plain_begin h 13 pl)
  clear h hs
  go_enter Tryz.func70, Tryz.ntmps70
  go_upto_region 2 with (fail)
  generalize (w.alloc (.cells #[.int .i64 0, .string ⟨#[]⟩, .string ⟨#[]⟩, .slice none 0 0, .slice none 0 0, .int .i64 0, .int .i64 0, .int .i64 0, .int .i64 0] 31)).alloc (.cells #[.int .i64 13, .string ⟨#[]⟩, .string ⟨#[]⟩, .slice none 0 0, .slice none 0 0, .int .i64 0, .int .i64 0, .int .i64 0, .int .i64 pl] 31) = W at *
  generalize w.heap.size + 1 = b7 at *
  generalize w.heap.size = b6 at *
  go_upto_region 33 with (fail)
  have l6 := PX.out.lt6
  have l7 := PX.out.lt7
  have c0x : W.cell? ⟨b7, 0, none⟩ = some (.int .i64 13) := PX.out.c7 rfl
  have c1x : W.cell? ⟨b7, 1, none⟩ = some (.string ⟨#[]⟩) := PX.out.c7 rfl
  have c2x : W.cell? ⟨b7, 2, none⟩ = some (.string ⟨#[]⟩) := PX.out.c7 rfl
  have c3x : W.cell? ⟨b7, 3, none⟩ = some (.slice none 0 0) := PX.out.c7 rfl
  have c4x : W.cell? ⟨b7, 4, none⟩ = some (.slice none 0 0) := PX.out.c7 rfl
  have c5x : W.cell? ⟨b7, 5, none⟩ = some (.int .i64 0) := PX.out.c7 rfl
  have c6x : W.cell? ⟨b7, 6, none⟩ = some (.int .i64 0) := PX.out.c7 rfl
  have c7x : W.cell? ⟨b7, 7, none⟩ = some (.int .i64 0) := PX.out.c7 rfl
  have c8x : W.cell? ⟨b7, 8, none⟩ = some (.int .i64 pl) := PX.out.c7 rfl
  have d0x : W.cell? ⟨b6, 0, none⟩ = some (.int .i64 0) := by rw [Lib.cell_of_heap PX.out.r6]; rfl
  have d1x : W.cell? ⟨b6, 1, none⟩ = some (.string ⟨#[]⟩) := by rw [Lib.cell_of_heap PX.out.r6]; rfl
  have d2x : W.cell? ⟨b6, 2, none⟩ = some (.string ⟨#[]⟩) := by rw [Lib.cell_of_heap PX.out.r6]; rfl
  have d3x : W.cell? ⟨b6, 3, none⟩ = some (.slice none 0 0) := by rw [Lib.cell_of_heap PX.out.r6]; rfl
  have d4x : W.cell? ⟨b6, 4, none⟩ = some (.slice none 0 0) := by rw [Lib.cell_of_heap PX.out.r6]; rfl
  have d5x : W.cell? ⟨b6, 5, none⟩ = some (.int .i64 0) := by rw [Lib.cell_of_heap PX.out.r6]; rfl
  have d6x : W.cell? ⟨b6, 6, none⟩ = some (.int .i64 0) := by rw [Lib.cell_of_heap PX.out.r6]; rfl
  have d7x : W.cell? ⟨b6, 7, none⟩ = some (.int .i64 0) := by rw [Lib.cell_of_heap PX.out.r6]; rfl
  have d8x : W.cell? ⟨b6, 8, none⟩ = some (.int .i64 0) := by rw [Lib.cell_of_heap PX.out.r6]; rfl
  have f0x : W.frozen? ⟨b6, 0, none⟩ = false := Lib.frozen_of_heap PX.out.r6 0
  have f1x : W.frozen? ⟨b6, 1, none⟩ = false := Lib.frozen_of_heap PX.out.r6 1
  have f2x : W.frozen? ⟨b6, 2, none⟩ = false := Lib.frozen_of_heap PX.out.r6 2
  have f3x : W.frozen? ⟨b6, 3, none⟩ = false := Lib.frozen_of_heap PX.out.r6 3
  have f4x : W.frozen? ⟨b6, 4, none⟩ = false := Lib.frozen_of_heap PX.out.r6 4
  have f5x : W.frozen? ⟨b6, 5, none⟩ = false := Lib.frozen_of_heap PX.out.r6 5
  have f6x : W.frozen? ⟨b6, 6, none⟩ = false := Lib.frozen_of_heap PX.out.r6 6
  have f7x : W.frozen? ⟨b6, 7, none⟩ = false := Lib.frozen_of_heap PX.out.r6 7
  have f8x : W.frozen? ⟨b6, 8, none⟩ = false := Lib.frozen_of_heap PX.out.r6 8
  have ne := PX.out.ne
  have ne2 : ¬ b7 = b6 := fun e => ne e.symm
  go_wp2_with fail
  obtain ⟨N9, HP⟩ := PX.out.done (W := (((((((((W.setCell ⟨b6, 0, none⟩ (.int .i64 13)).setCell ⟨b6, 1, none⟩ (.string ⟨#[]⟩)).setCell ⟨b6, 2, none⟩ (.string ⟨#[]⟩)).setCell ⟨b6, 3, none⟩ (.slice none 0 0)).setCell ⟨b6, 4, none⟩ (.slice none 0 0)).setCell ⟨b6, 5, none⟩ (.int .i64 0)).setCell ⟨b6, 6, none⟩ (.int .i64 0)).setCell ⟨b6, 7, none⟩ (.int .i64 0)).setCell ⟨b6, 8, none⟩ (.int .i64 pl))) rfl (plain_o L 13 pl i (by omega) ).1.symm.symm (plain_o L 13 pl i (by omega) ).2
  have HPP := Lib.hid HP
  clear HP c0x d0x f0x c1x d1x f1x c2x d2x f2x c3x d3x f3x c4x d4x f4x c5x d5x f5x c6x d6x f6x c7x d7x f7x c8x d8x f8x
  generalize (((((((((W.setCell ⟨b6, 0, none⟩ (.int .i64 13)).setCell ⟨b6, 1, none⟩ (.string ⟨#[]⟩)).setCell ⟨b6, 2, none⟩ (.string ⟨#[]⟩)).setCell ⟨b6, 3, none⟩ (.slice none 0 0)).setCell ⟨b6, 4, none⟩ (.slice none 0 0)).setCell ⟨b6, 5, none⟩ (.int .i64 0)).setCell ⟨b6, 6, none⟩ (.int .i64 0)).setCell ⟨b6, 7, none⟩ (.int .i64 0)).setCell ⟨b6, 8, none⟩ (.int .i64 pl)) = WW at *
  obtain ⟨_, q0, q1, q2, q3, q4, q5, q6, q7, q8⟩ := N9
  simp only [sv0, stm0] at q0 q1 q2 q3 q4 q5 q6 q7 q8
  refine bodyPost_ret (v := .agg #[.int .i64 13, .string ⟨#[]⟩, .string ⟨#[]⟩, .slice none 0 0, .slice none 0 0, .int .i64 0, .int .i64 0, .int .i64 0, .int .i64 pl]) (by simp [results, Tryz.results70, go_sem, q0, q1, q2, q3, q4, q5, q6, q7, q8]) rfl ?_
  exact HPP.out
end
end Go.Proofs.YtpeohfgadnfnpaaGreatDoor
