/-
  DERIVED. Texts of the walk, packed: Part, Sees.
-/
import Derived.Test.YtpeohfgadnfnpaaGreatDoorQ05
import Derived.Deep.RegionHeld3
/-
  DERIVED. Layer 3: the reader of expr.Parse as it stands in memory; parts of expressions, and what joins make of them.
-/
namespace Go.Proofs.YtpeohfgadnfnpaaGreatDoor
open Go.RowKit

/-- Nothing that was there has turned but block g. -/
structure Keeps (g : Nat) (w w' : World) : Prop where
  os : w'.os = w.os
  tape : w'.tape = w.tape
  output : w'.output = w.output
  size : w.heap.size ≤ w'.heap.size
  block : ∀ k, k < w.heap.size → k ≠ g → w'.heap[k]? = w.heap[k]?
theorem Keeps.refl (g : Nat) (w : World) : Keeps g w w := ⟨rfl, rfl, rfl, Nat.le_refl _, fun _ _ _ => rfl⟩
theorem Keeps.trans {g : Nat} {w w1 w2 : World} (h : Keeps g w w1) (k : Keeps g w1 w2) : Keeps g w w2 :=
  ⟨k.os.trans h.os, k.tape.trans h.tape, k.output.trans h.output, Nat.le_trans h.size k.size, fun i hi hg => (k.block i (Nat.lt_of_lt_of_le hi h.size) hg).trans (h.block i hi hg)⟩
theorem Keeps.of {g : Nat} {w w' : World} (h : Below w.heap.size w w') : Keeps g w w' := ⟨h.os, h.tape, h.output, h.size, fun k hk _ => h.block k hk⟩
theorem Keeps.set {g j : Nat} {w w' : World} {v : Value} (h : Keeps g w w') : Keeps g w (w'.setCell ⟨g, j, none⟩ v) := by
  refine ⟨h.os, h.tape, h.output, by simpa using h.size, fun k hk hg => ?_⟩
  rw [← h.block k hk hg]
  simp only [World.setCell]
  rw [Array.getElem?_modify, if_neg (fun e => hg e.symm)]
theorem Keeps.below {g : Nat} {w w' : World} (h : Keeps g w w') {B : Nat} (hB : B ≤ g) (hw : B ≤ w.heap.size) : Below B w w' :=
  ⟨h.os, h.tape, h.output, h.size, fun k hk => h.block k (by omega) (by omega)⟩
theorem Keeps.cell {g : Nat} {w w' : World} (h : Keeps g w w') {b o : Nat} (hb : b < w.heap.size) (hg : b ≠ g) : w'.cell? ⟨b, o, none⟩ = w.cell? ⟨b, o, none⟩ := World.cell?_of_block (h.block b hb hg)
theorem Keeps.frozen {g : Nat} {w w' : World} (h : Keeps g w w') {b o : Nat} (hb : b < w.heap.size) (hg : b ≠ g) : w'.frozen? ⟨b, o, none⟩ = w.frozen? ⟨b, o, none⟩ := World.frozen?_of_block (h.block b hb hg)

/-- The reader: its tokens, where it stands, within how many. -/
structure Rd (w : World) (g : Nat) (v : Value) (i d : Nat) : Prop where
  lt : g < w.heap.size
  c0 : w.cell? ⟨g, 0, none⟩ = some v
  c1 : w.cell? ⟨g, 1, none⟩ = some (.int .i64 i)
  c2 : w.cell? ⟨g, 2, none⟩ = some (.int .i64 d)
  f1 : w.frozen? ⟨g, 1, none⟩ = false
  f2 : w.frozen? ⟨g, 2, none⟩ = false
theorem Rd.on {w w' : World} {g : Nat} {v : Value} {i d : Nat} (h : Rd w g v i d) (hb : Below w.heap.size w w') : Rd w' g v i d :=
  ⟨Nat.lt_of_lt_of_le h.lt hb.size, (hb.cell (p := ⟨g, 0, none⟩) h.lt).trans h.c0, (hb.cell (p := ⟨g, 1, none⟩) h.lt).trans h.c1, (hb.cell (p := ⟨g, 2, none⟩) h.lt).trans h.c2, (hb.frozen (p := ⟨g, 1, none⟩) h.lt).trans h.f1, (hb.frozen (p := ⟨g, 2, none⟩) h.lt).trans h.f2⟩
theorem Rd.set1 {w : World} {g : Nat} {v : Value} {i d : Nat} (h : Rd w g v i d) (j : Nat) : Rd (w.setCell ⟨g, 1, none⟩ (.int .i64 j)) g v j d :=
  ⟨by simpa using h.lt, (World.cell?_setCell_other _ _ _ _ (by simp)).trans h.c0, World.cell?_setCell_same _ _ _ h.c1, (World.cell?_setCell_other _ _ _ _ (by simp)).trans h.c2, by simpa using h.f1, by simpa using h.f2⟩
theorem Rd.set2 {w : World} {g : Nat} {v : Value} {i d : Nat} (h : Rd w g v i d) (j : Nat) : Rd (w.setCell ⟨g, 2, none⟩ (.int .i64 j)) g v i j :=
  ⟨by simpa using h.lt, (World.cell?_setCell_other _ _ _ _ (by simp)).trans h.c0, (World.cell?_setCell_other _ _ _ _ (by simp)).trans h.c1, World.cell?_setCell_same _ _ _ h.c2, by simpa using h.f1, by simpa using h.f2⟩
/-- The tokens lie below the reader. -/
def ReadB (g : Nat) (w : World) (v : Value) (L : List Tok) : Prop :=
  ∃ A c, v = .slice A L.length c ∧ L.length ≤ c ∧ (∀ i t, L[i]? = some t → ∃ b, A = some ⟨b, 0, none⟩ ∧ b < g ∧
    w.cell? ⟨b, i * 4, none⟩ = some (.int .i64 t.kind) ∧ w.cell? ⟨b, i * 4 + 1, none⟩ = some (.string ⟨t.text.toArray⟩) ∧ w.cell? ⟨b, i * 4 + 2, none⟩ = some (.int .i64 t.n) ∧ w.cell? ⟨b, i * 4 + 3, none⟩ = some (.int .i64 t.pl))
theorem ReadB.read {g : Nat} {w : World} {v : Value} {L : List Tok} (h : ReadB g w v L) (hg : g < w.heap.size) : ReadT w v L := by
  obtain ⟨A, c, hv, hc, hr⟩ := h
  refine ⟨A, c, hv, hc, fun i t hi => ?_⟩
  obtain ⟨b, hA, hb, r⟩ := hr i t hi
  exact ⟨b, hA, by omega, r⟩
theorem ReadT.toB {w : World} {v : Value} {L : List Tok} (h : ReadT w v L) {g : Nat} (hg : w.heap.size ≤ g) : ReadB g w v L := by
  obtain ⟨A, c, hv, hc, hr⟩ := h
  refine ⟨A, c, hv, hc, fun i t hi => ?_⟩
  obtain ⟨b, hA, hb, r⟩ := hr i t hi
  exact ⟨b, hA, by omega, r⟩
theorem ReadB.keep {g : Nat} {w w' : World} {v : Value} {L : List Tok} (h : ReadB g w v L) (hg : g < w.heap.size) (hk : Keeps g w w') : ReadB g w' v L := by
  obtain ⟨A, c, hv, hc, hr⟩ := h
  refine ⟨A, c, hv, hc, fun i t hi => ?_⟩
  obtain ⟨b, hA, hb, h0, h1, h2, h3⟩ := hr i t hi
  have e : ∀ j, w'.cell? ⟨b, j, none⟩ = w.cell? ⟨b, j, none⟩ := fun j => hk.cell (by omega) (by omega)
  exact ⟨b, hA, hb, by rw [e]; exact h0, by rw [e]; exact h1, by rw [e]; exact h2, by rw [e]; exact h3⟩
theorem Tabs.keep {g : Nat} {w w' : World} (h : Tabs w) (h1 : 7 < g) (hg : g < w.heap.size) (hk : Keeps g w w') : Tabs w' := h.same fun k hk' => hk.block k (by omega) (by omega)
theorem OwnN.keep {g B : Nat} {w w' : World} {v : Value} {L : List Nod} (h : OwnN w B v L) (hB : g < B) (hk : Keeps g w w') : OwnN w' B v L := by
  obtain ⟨h1, h2⟩ := h
  refine ⟨h1, ?_⟩
  rcases h2 with h2 | ⟨b, cap, cur, hv, hg, hh, r⟩
  · exact .inl h2
  · exact .inr ⟨b, cap, cur, hv, hg, (hk.block b (Array.getElem?_eq_some_iff.1 hh).1 (by omega)).trans hh, r⟩
end Go.Proofs.YtpeohfgadnfnpaaGreatDoor
/-
  DERIVED. Layer 3: contracts of the reader's ended, wrong, sign and closed.
-/
namespace Go.Proofs.YtpeohfgadnfnpaaGreatDoor
open Go.RowKit

theorem below_dr (w : World) : Below w.heap.size w w.drew := ⟨rfl, rfl, rfl, Nat.le_refl _, fun _ _ => rfl⟩
/-- What the reader stands on: itself, and its tokens. -/
structure Sits (L : List Tok) (w : World) (g : Nat) (v : Value) (i d : Nat) : Prop where
  rd : Rd w g v i d
  toks : ReadB g w v L
  tabs : Tabs w
  far : 7 < g
theorem Sits.on {L : List Tok} {w w' : World} {g : Nat} {v : Value} {i d : Nat} (h : Sits L w g v i d) (hb : Below w.heap.size w w') : Sits L w' g v i d :=
  ⟨h.rd.on hb, h.toks.keep h.rd.lt (Keeps.of hb), h.tabs.on hb, h.far⟩
theorem Sits.set1 {L : List Tok} {w : World} {g : Nat} {v : Value} {i d : Nat} (h : Sits L w g v i d) (j : Nat) : Sits L (w.setCell ⟨g, 1, none⟩ (.int .i64 j)) g v j d :=
  ⟨h.rd.set1 j, h.toks.keep h.rd.lt (Keeps.refl _ _).set, h.tabs.keep h.far h.rd.lt (Keeps.refl _ _).set, h.far⟩
theorem Sits.set2 {L : List Tok} {w : World} {g : Nat} {v : Value} {i d : Nat} (h : Sits L w g v i d) (j : Nat) : Sits L (w.setCell ⟨g, 2, none⟩ (.int .i64 j)) g v i j :=
  ⟨h.rd.set2 j, h.toks.keep h.rd.lt (Keeps.refl _ _).set, h.tabs.keep h.far h.rd.lt (Keeps.refl _ _).set, h.far⟩
theorem Sits.read {L : List Tok} {w : World} {g : Nat} {v : Value} {i d : Nat} (h : Sits L w g v i d) : ReadT w v L := h.toks.read h.rd.lt

set_option maxHeartbeats 2000000 in
theorem ended_any (L : List Tok) (g : Nat) (v : Value) (i d : Nat) (w : World) (h : Sits L w g v i d) : Calls Tryz.prog 165 #[.pointer (some ⟨g, 0, none⟩)] w (TellsB (decide (L.length ≤ i)) w) := by
  obtain ⟨⟨hlt, c0, c1, c2, f1, f2⟩, ⟨A, c, rfl, hc, _⟩, _, _⟩ := h
  clear c2 f1 f2
  go_enter Tryz.func165, Tryz.ntmps165
  go_wp2_with fail
  go_quiet (fail)
  go_wp2_with fail
  go_ret
  exact ⟨ret_bool (by first | rfl | simp), below_drew1 _ _⟩

set_option maxHeartbeats 2000000 in
theorem wrong_says (L : List Tok) (g : Nat) (v : Value) (i d : Nat) (w : World) (h : Sits L w g v i d) : Calls Tryz.prog 164 #[.pointer (some ⟨g, 0, none⟩)] w (GivesN (if L.length ≤ i then 6 else 5) w) := by
  have HS := Lib.hid h
  clear h
  by_cases hl : L.length ≤ i
  · rw [if_pos hl]
    have hd : Hid (decide (L.length ≤ i) = true) := Lib.hid (by simpa using hl)
    clear hl
    go_enter Tryz.func164, Tryz.ntmps164
    go_wp2_with fail
    refine (ended_any L g v i d _ HS.out).mono ?_
    rw [hd.out]
    rintro e w1 ⟨rfl, hb⟩
    go_wp2_with fail
    go_ret
    exact ⟨rfl, hb⟩
  · rw [if_neg hl]
    have hd : Hid (decide (L.length ≤ i) = false) := Lib.hid (by simpa using hl)
    clear hl
    go_enter Tryz.func164, Tryz.ntmps164
    go_wp2_with fail
    refine (ended_any L g v i d _ HS.out).mono ?_
    rw [hd.out]
    rintro e w1 ⟨rfl, hb⟩
    go_wp2_with fail
    go_ret
    exact ⟨rfl, hb⟩

theorem is_at {L : List Tok} {i : Nat} {s : List UInt8} {q : Bool} (hq : isB L i s = q) (v : Value) (w : World) (h : ReadT w v L) : Calls Tryz.prog 48 #[v, .int .i64 i, .string ⟨s.toArray⟩] w (TellsB q w) := by
  have := is_any v L i ⟨s.toArray⟩ w h
  rwa [show (ByteArray.mk s.toArray).data.toList = s from by simp, hq] at this
/-- Three cells that stay. -/
theorem kept3 {W w1 w2 : World} {a b k : Nat} {x y z : Value} (ha : a < W.heap.size) (hb0 : b < W.heap.size) (h : w1.cell? ⟨a, 0, none⟩ = some x ∧ w1.cell? ⟨a, 1, none⟩ = some y ∧ w1.cell? ⟨b, k, none⟩ = some z ∧ Below W.heap.size W w1) (hb : Below w1.heap.size w1 w2) :
    w2.cell? ⟨a, 0, none⟩ = some x ∧ w2.cell? ⟨a, 1, none⟩ = some y ∧ w2.cell? ⟨b, k, none⟩ = some z ∧ Below W.heap.size W w2 := by
  have hz := h.2.2.2.size
  exact ⟨(hb.cell (p := ⟨a, 0, none⟩) (by show a < _; omega)).trans h.1, (hb.cell (p := ⟨a, 1, none⟩) (by show a < _; omega)).trans h.2.1, (hb.cell (p := ⟨b, k, none⟩) (by show b < _; omega)).trans h.2.2.1, below_then h.2.2.2 hb⟩
/-! ### sign -/
theorem sign_index : ∀ k, k < 16 → ∀ w : World, (Instr.index 158 (.agg signVals) (.int .i64 (k : Nat))).run Tryz.prog w = .ok (.string ⟨(signT k).toArray⟩) w := by
  intro k hk w
  have h : k = 0 ∨ k = 1 ∨ k = 2 ∨ k = 3 ∨ k = 4 ∨ k = 5 ∨ k = 6 ∨ k = 7 ∨ k = 8 ∨ k = 9 ∨ k = 10 ∨ k = 11 ∨ k = 12 ∨ k = 13 ∨ k = 14 ∨ k = 15 := by omega
  rcases h with rfl | rfl | rfl | rfl | rfl | rfl | rfl | rfl | rfl | rfl | rfl | rfl | rfl | rfl | rfl | rfl
  all_goals (refine Eq.trans ?_ rfl; kernel_rfl)
/-- No operator up to here. -/
def NoSign (L : List Tok) (b i k : Nat) : Prop := ∀ op, op < k → (bindT op == (b : Int) && isB L i (signT op)) = false
theorem NoSign.succ {L : List Tok} {b i k : Nat} (h : NoSign L b i k) (hk : (bindT k == (b : Int) && isB L i (signT k)) = false) : NoSign L b i (k + 1) := by
  intro op ho
  by_cases e : op = k
  · subst e; exact hk
  · exact h op (by omega)
theorem find_range (p : Nat → Bool) : ∀ (n k : Nat), k < n → (∀ j, j < k → p j = false) → p k = true → (List.range n).find? p = some k := by
  intro n
  induction n with
  | zero => intro k h; omega
  | succ n ih =>
    intro k hk hj hp
    rw [List.range_succ, List.find?_append]
    by_cases e : k = n
    · subst e
      have : (List.range k).find? p = none := by
        rw [List.find?_eq_none]; intro x hx; rw [hj x (by simpa using hx)]; simp
      rw [this]; simp [hp]
    · rw [ih k (by omega) hj hp]; rfl
theorem signAt_hit {L : List Tok} {b i k : Nat} (hk : k < 16) (h : NoSign L b i k) (hp : (bindT k == (b : Int) && isB L i (signT k)) = true) : signAt L b i = k := by
  unfold signAt
  rw [find_range (fun op => bindT op == (b : Int) && isB L i (signT op)) 16 k hk h hp]; rfl
theorem signAt_end {L : List Tok} {b i : Nat} (h : NoSign L b i 16) : signAt L b i = 0 := by
  unfold signAt
  have : (List.range 16).find? (fun op => bindT op == (b : Int) && isB L i (signT op)) = none := by
    rw [List.find?_eq_none]; intro x hx; rw [h x (by simpa using hx)]; simp
  rw [this]; rfl

set_option maxRecDepth 100000 in
set_option maxHeartbeats 4000000 in
theorem sign_any (L : List Tok) (g : Nat) (v : Value) (i d b : Nat) (w : World) (h : Sits L w g v i d) : Calls Tryz.prog 148 #[.pointer (some ⟨g, 0, none⟩), .int .i64 b] w (GivesN (signAt L b i) w) := by
  have HS := Lib.hid h
  obtain ⟨tt, fr, hg⟩ := h.tabs.signs
  have HG := Lib.hid hg
  have HX := Lib.hid sign_index
  clear h hg
  go_enter Tryz.func148, Tryz.ntmps148
  go_wp2_with (refine wpList_load_row rfl 158 _ rfl 5 rfl tt signVals fr _ HG.out Tryz.underlying158 rfl (by kernel_rfl) ?_)
  go_loopw [8] (fun j wr => ∃ k : Nat, k ≤ 16 ∧ j = .int .i64 k ∧ Below w.heap.size w wr ∧ NoSign L b i k) (fun j _ => 16 - (intOf j).toNat)
  case atStart => exact ⟨0, Nat.zero_le _, rfl, Below.refl _ _, fun op ho => absurd ho (by omega)⟩
  case round =>
    obtain ⟨k, hk, rfl, hbel, hno⟩ := hrel
    have HB := Lib.hid hbel
    have HN := Lib.hid hno
    have hS := HS.out.on hbel
    have HS2 := Lib.hid hS
    clear hno hbel
    by_cases hlt : k < 16
    · have hx := HX.out k hlt
      have hbc := hS.tabs.bind hlt
      obtain ⟨⟨hgl, c0, c1, c2, f1, f2⟩, _, htabs, _⟩ := hS
      have htl := htabs.lt
      clear c2 f1 f2 htabs
      cases e1 : (bindT k == (b : Int)) with
      | false =>
        have HQ := Lib.hid (HN.out.succ (k := k) (by rw [e1]; rfl))
        generalize bindT k = bk at *
        generalize signT k = sk at *
        go_wp2_with fail
        go_quiet (fail)
        go_wp2_with fail
        go_roundw
        case rel => exact ⟨k + 1, by omega, by go_num, below_then HB.out (below_drew1 _ _), HQ.out⟩
        case measure => simp [intOf]; omega
      | true =>
        have hi0 : (0 : Int) ≤ (k : Int) := by omega
        have hi1 : (k : Int) < 16 := by omega
        cases e2 : isB L i (signT k) with
        | false =>
          have HQ := Lib.hid (HN.out.succ (k := k) (by rw [e1, e2]; rfl))
          have HI := Lib.hid e2
          clear e2
          generalize bindT k = bk at *
          generalize signT k = sk at *
          go_wp2_with fail
          go_region_held3 (fun w' => w'.cell? ⟨g, 0, none⟩ = some v ∧ w'.cell? ⟨g, 1, none⟩ = some (.int .i64 i) ∧ w'.cell? ⟨6, k, none⟩ = some (.int .i64 bk) ∧ Below wr.heap.size wr w')
            (first | exact ⟨c0, c1, hbc, Below.refl _ _⟩ | exact ⟨c0, c1, hbc, below_dr _⟩ | exact kept3 (w1 := wr.drew) hgl htl ⟨c0, c1, hbc, below_dr _⟩ hb1)
            (first | (go_at_call 48; refine (is_at HI.out v _ (HS2.out.on (below_dr _)).read).mono ?_; rintro e w1 ⟨rfl, hb1⟩))
          go_wp2_with fail
          go_roundw
          case rel => exact ⟨k + 1, by omega, by go_num, below_then HB.out (below_then (below_dr _) hb1), HQ.out⟩
          case measure => simp [intOf]; omega
        | true =>
          have HQ := Lib.hid (signAt_hit hlt HN.out (by rw [e1, e2]; rfl))
          have HI := Lib.hid e2
          clear e2
          generalize bindT k = bk at *
          generalize signT k = sk at *
          go_wp2_with fail
          go_region_held3 (fun w' => w'.cell? ⟨g, 0, none⟩ = some v ∧ w'.cell? ⟨g, 1, none⟩ = some (.int .i64 i) ∧ w'.cell? ⟨6, k, none⟩ = some (.int .i64 bk) ∧ Below wr.heap.size wr w')
            (first | exact ⟨c0, c1, hbc, Below.refl _ _⟩ | exact ⟨c0, c1, hbc, below_dr _⟩ | exact kept3 (w1 := wr.drew) hgl htl ⟨c0, c1, hbc, below_dr _⟩ hb1)
            (first | (go_at_call 48; refine (is_at HI.out v _ (HS2.out.on (below_dr _)).read).mono ?_; rintro e w1 ⟨rfl, hb1⟩))
          go_wp2_with fail
          go_ret
          exact givesN_of rfl (by rw [HQ.out]) (below_then HB.out (below_then (below_dr _) hb1))
    · obtain rfl : k = 16 := by omega
      have HQ := Lib.hid (signAt_end HN.out)
      clear hS
      go_wp2_with fail
      go_ret
      exact givesN_of (n' := 0) rfl (by rw [HQ.out]; rfl) HB.out

/-! ### closed -/
/-- A call that moves the reader on, and answers a number. -/
def Moves (L : List Tok) (g : Nat) (v : Value) (j d : Nat) (n : Int) (w : World) (e : Ending) (w' : World) : Prop := e = .returned (.int .i64 n) ∧ Sits L w' g v j d ∧ Keeps g w w'
theorem kept2 {W w1 w2 : World} {a : Nat} {x y : Value} (ha : a < W.heap.size) (h : w1.cell? ⟨a, 0, none⟩ = some x ∧ w1.cell? ⟨a, 1, none⟩ = some y ∧ Below W.heap.size W w1) (hb : Below w1.heap.size w1 w2) :
    w2.cell? ⟨a, 0, none⟩ = some x ∧ w2.cell? ⟨a, 1, none⟩ = some y ∧ Below W.heap.size W w2 := by
  have hz := h.2.2.size
  exact ⟨(hb.cell (p := ⟨a, 0, none⟩) (by show a < _; omega)).trans h.1, (hb.cell (p := ⟨a, 1, none⟩) (by show a < _; omega)).trans h.2.1, below_then h.2.2 hb⟩

set_option maxRecDepth 100000 in
set_option maxHeartbeats 4000000 in
theorem closed_yes (L : List Tok) (g : Nat) (v : Value) (i d : Nat) (w : World) (h : Sits L w g v i d) (hl : L.length ≤ 10000) (hq : isB L i [41] = true) : Calls Tryz.prog 157 #[.pointer (some ⟨g, 0, none⟩)] w (Moves L g v (i + 1) d 0 w) := by
  have HS := Lib.hid h
  have HI := Lib.hid hq
  have hlt := isB_lt hq
  obtain ⟨⟨hgl, c0, c1, c2, f1, f2⟩, _, _, _⟩ := h
  clear c2 f1 f2 hq
  go_enter Tryz.func157, Tryz.ntmps157
  go_wp2_with fail
  go_region_held3 (fun w' => w'.cell? ⟨g, 0, none⟩ = some v ∧ w'.cell? ⟨g, 1, none⟩ = some (.int .i64 i) ∧ Below w.heap.size w w')
    (first | exact ⟨c0, c1, Below.refl _ _⟩ | exact ⟨c0, c1, below_dr _⟩ | exact kept2 (w1 := w.drew) hgl ⟨c0, c1, below_dr _⟩ hb1)
    (first | (go_at_call 48; refine (is_at (s := [41]) HI.out v _ (HS.out.on (below_dr _)).read).mono ?_; rintro e w1 ⟨rfl, hb1⟩))
  have HB := Lib.hid (below_then (below_dr w) hb1)
  clear hb1 c0 c1
  have HS2 := Lib.hid (HS.out.on HB.out)
  obtain ⟨⟨hgl1, c0, c1, c2, f1, f2⟩, _, _, _⟩ := HS2.out
  go_wp2_with fail
  go_ret
  exact ⟨rfl, HS2.out.set1 (i + 1), (Keeps.of HB.out).set⟩

set_option maxRecDepth 100000 in
set_option maxHeartbeats 4000000 in
theorem closed_no (L : List Tok) (g : Nat) (v : Value) (i d : Nat) (w : World) (h : Sits L w g v i d) (hq : isB L i [41] = false) : Calls Tryz.prog 157 #[.pointer (some ⟨g, 0, none⟩)] w (Moves L g v i d (if L.length ≤ i then 6 else 5) w) := by
  have HS := Lib.hid h
  have HI := Lib.hid hq
  obtain ⟨⟨hgl, c0, c1, c2, f1, f2⟩, _, _, _⟩ := h
  clear c2 f1 f2 hq
  generalize hn : (if L.length ≤ i then (6 : Int) else 5) = n
  have HN := Lib.hid hn
  clear hn
  go_enter Tryz.func157, Tryz.ntmps157
  go_wp2_with fail
  go_region_held3 (fun w' => w'.cell? ⟨g, 0, none⟩ = some v ∧ w'.cell? ⟨g, 1, none⟩ = some (.int .i64 i) ∧ Below w.heap.size w w')
    (first | exact ⟨c0, c1, Below.refl _ _⟩ | exact ⟨c0, c1, below_dr _⟩ | exact kept2 (w1 := w.drew) hgl ⟨c0, c1, below_dr _⟩ hb1)
    (first | (go_at_call 48; refine (is_at (s := [41]) HI.out v _ (HS.out.on (below_dr _)).read).mono ?_; rintro e w1 ⟨rfl, hb1⟩))
  have HB := Lib.hid (below_then (below_dr w) hb1)
  clear hb1 c0 c1
  have HS2 := Lib.hid (HS.out.on HB.out)
  go_wp2_with fail
  refine (wrong_says L g v i d _ HS2.out).mono ?_
  rw [HN.out]
  rintro e w2 ⟨rfl, hb⟩
  go_wp2_with fail
  go_ret
  exact ⟨rfl, HS2.out.on hb, Keeps.of (below_then HB.out hb)⟩
end Go.Proofs.YtpeohfgadnfnpaaGreatDoor
