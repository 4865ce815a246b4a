/-
  DERIVED. Layer 2: a slice of tokens as it is read; the contract of the comparison that the laws make.
-/
import Derived.Test.YtgecocpcbfccgaaDoorScan
import Derived.Deep.QuietTactic
import Derived.BigQuiet
namespace Go.Proofs.YtgecocpcbfccgaaDoor
open Go.RowKit

/-- A slice that reads as these tokens, and lies in old memory. -/
def ReadT (w : World) (v : Value) (L : List Tok) : Prop :=
  ∃ A c, v = .slice A L.length c ∧ L.length ≤ c ∧ (∀ i t, L[i]? = some t → ∃ g, A = some ⟨g, 0, none⟩ ∧ g < w.heap.size ∧
    w.cell? ⟨g, i * 4, none⟩ = some (.int .i64 t.kind) ∧ w.cell? ⟨g, i * 4 + 1, none⟩ = some (.string ⟨t.text.toArray⟩) ∧ w.cell? ⟨g, i * 4 + 2, none⟩ = some (.int .i64 t.n) ∧ w.cell? ⟨g, i * 4 + 3, none⟩ = some (.int .i64 t.pl))
theorem cellsT_len (L : List Tok) : (cellsT L).length = 4 * L.length := by
  induction L with
  | nil => rfl
  | cons t L ih => unfold cellsT at *; rw [List.flatMap_cons, List.length_append, ih]; simp [tokCells]; omega
theorem cellsT_at : ∀ (L : List Tok) (i : Nat) (t : Tok) (j : Nat) (u : Value), L[i]? = some t → (tokCells t)[j]? = some u → (cellsT L)[i * 4 + j]? = some u
  | [], i, t, j, u, h, _ => by simp at h
  | a :: L, 0, t, j, u, h, hj => by
    simp at h; subst h
    unfold cellsT
    rw [List.flatMap_cons, List.getElem?_append_left (by have := (List.getElem?_eq_some_iff.1 hj).1; omega)]
    simpa using hj
  | a :: L, i + 1, t, j, u, h, hj => by
    have ih := cellsT_at L i t j u (by simpa using h) hj
    unfold cellsT at *
    rw [List.flatMap_cons, List.getElem?_append_right (by simp [tokCells]; omega)]
    rw [← ih]; congr 1; simp [tokCells]; omega
theorem OwnT.read {w : World} {B : Nat} {v : Value} {L : List Tok} (h : OwnT w B v L) : ReadT w v L := by
  rcases h.2 with ⟨rfl, h0⟩ | ⟨g, cap, cur, rfl, hB, hh, hn, hm, hs, hc⟩
  · have : L = [] := List.length_eq_zero_iff.1 h0
    subst this
    exact ⟨none, 0, rfl, Nat.le_refl _, fun i t h => by simp at h⟩
  · refine ⟨_, cap, rfl, hn, fun i t hi => ⟨g, rfl, (Array.getElem?_eq_some_iff.1 hh).1, ?_⟩⟩
    have key : ∀ j u, (tokCells t)[j]? = some u → w.cell? ⟨g, i * 4 + j, none⟩ = some u := by
      intro j u hj
      have h1 := cellsT_at L i t j u hi hj
      have hlt := (List.getElem?_eq_some_iff.1 h1).1
      rw [cellsT_len] at hlt
      rw [cell_of_row w g _ cur 31 (0, 0) hh]
      rw [← hc, List.getElem?_take, if_pos (by omega)] at h1
      simpa using h1
    exact ⟨key 0 _ rfl, key 1 _ rfl, key 2 _ rfl, key 3 _ rfl⟩
theorem ReadT.on {w w' : World} {v : Value} {L : List Tok} (h : ReadT w v L) (hb : Below w.heap.size w w') : ReadT w' v L := by
  obtain ⟨A, c, hv, hc, hr⟩ := h
  refine ⟨A, c, hv, hc, fun i t hi => ?_⟩
  obtain ⟨g, hA, hg, h0, h1, h2, h3⟩ := hr i t hi
  have e : ∀ j, w'.cell? ⟨g, j, none⟩ = w.cell? ⟨g, j, none⟩ := fun j => hb.cell (p := ⟨g, j, none⟩) hg
  exact ⟨g, hA, Nat.lt_of_lt_of_le hg hb.size, by rw [e]; exact h0, by rw [e]; exact h1, by rw [e]; exact h2, by rw [e]; exact h3⟩

def tokEq (p : Bool) (a b : Tok) : Bool := a.kind == b.kind && a.text == b.text && a.n == b.n && (!p || a.pl == b.pl)
def sameB (p : Bool) : List Tok → List Tok → Bool
  | [], [] => true
  | a :: l, b :: m => tokEq p a b && sameB p l m
  | _, _ => false
theorem same_len : ∀ {p : Bool} {L M : List Tok}, L.length ≠ M.length → sameB p L M = false
  | p, [], [], h => absurd rfl h
  | p, [], b :: m, _ => rfl
  | p, a :: l, [], _ => rfl
  | p, a :: l, b :: m, h => by
    unfold sameB; rw [same_len (p := p) (L := l) (M := m) (fun e => h (by simp [e]))]; simp
theorem same_succ : ∀ {p : Bool} {L M : List Tok} {k : Nat} {a b : Tok}, L[k]? = some a → M[k]? = some b → sameB p (L.take (k + 1)) (M.take (k + 1)) = (sameB p (L.take k) (M.take k) && tokEq p a b)
  | p, [], M, k, a, b, h, _ => by simp at h
  | p, x :: l, [], k, a, b, _, h => by simp at h
  | p, x :: l, y :: m, 0, a, b, h, h2 => by
    simp at h h2; subst h; subst h2
    simp [sameB]
  | p, x :: l, y :: m, k + 1, a, b, h, h2 => by
    have ih := same_succ (p := p) (L := l) (M := m) (k := k) (a := a) (b := b) (by simpa using h) (by simpa using h2)
    rw [List.take_succ_cons, List.take_succ_cons, List.take_succ_cons, List.take_succ_cons]
    unfold sameB
    rw [ih, Bool.and_assoc]
theorem same_no : ∀ {p : Bool} {L M : List Tok} {k : Nat} {a b : Tok}, L[k]? = some a → M[k]? = some b → tokEq p a b = false → sameB p L M = false
  | p, [], M, k, a, b, h, _, _ => by simp at h
  | p, x :: l, [], k, a, b, _, h, _ => by simp at h
  | p, x :: l, y :: m, 0, a, b, h, h2, he => by
    simp at h h2; subst h; subst h2
    unfold sameB; rw [he]; rfl
  | p, x :: l, y :: m, k + 1, a, b, h, h2, he => by
    unfold sameB; rw [same_no (L := l) (M := m) (k := k) (by simpa using h) (by simpa using h2) he]; simp
theorem same_all {p : Bool} {L M : List Tok} {k : Nat} (hk : L.length ≤ k) (hl : L.length = M.length) (h : sameB p (L.take k) (M.take k) = true) : sameB p L M = true := by
  rwa [List.take_of_length_le hk, List.take_of_length_le (by omega)] at h

theorem below_drew1 (w : World) (n : Nat) : Below w.heap.size w (w.drewN n) := ⟨rfl, rfl, rfl, Nat.le_refl _, fun _ _ => rfl⟩
theorem drews (w : World) (n m : Nat) : (w.drewN n).drewN m = w.drewN (n + m) := World.drewN_drewN _ _ _
theorem below_drews (w : World) (n m : Nat) : Below w.heap.size w ((w.drewN n).drewN m) := by rw [drews]; exact below_drew1 _ _

set_option maxRecDepth 100000 in
set_option maxHeartbeats 4000000 in
theorem same_any (p : Bool) (v1 v2 : Value) (L M : List Tok) (w : World) (h1 : ReadT w v1 L) (h2 : ReadT w v2 M) (hl : L.length ≤ 10000) :
    Calls Tryd.prog 12 #[v1, v2, .bool p] w fun e w' => e = .returned (.bool (sameB p L M)) ∧ Below w.heap.size w w' := by
  obtain ⟨A, c, rfl, hc, hr1⟩ := h1
  obtain ⟨A', c', rfl, hc', hr2⟩ := h2
  have HR1 := Lib.hid hr1
  have HR2 := Lib.hid hr2
  clear hr1 hr2
  by_cases hL : L.length = M.length
  · rw [← hL]
    have HL := Lib.hid hL
    have hkM : ∀ k, k < L.length → k < M.length := by rw [hL]; exact fun _ h => h
    have HM := Lib.hid hkM
    clear hL hkM
    go_enter Tryd.func12, Tryd.ntmps12
    go_wp2_with fail
    go_loopw [7] (fun i wr => ∃ k n : Nat, k ≤ L.length ∧ i = .int .i64 k ∧ wr = w.drewN n ∧ sameB p (L.take k) (M.take k) = true) (fun i _ => L.length - (intOf i).toNat)
    case atStart => exact ⟨0, 0, Nat.zero_le _, rfl, rfl, rfl⟩
    case round =>
      obtain ⟨k, n, hk, rfl, rfl, hs⟩ := hrel
      have HS := Lib.hid hs
      clear hs
      by_cases hlt : k < L.length
      · have hkm := HM.out k hlt
        have ha : L[k]? = some L[k] := List.getElem?_eq_getElem hlt
        have hb : M[k]? = some (M[k]'hkm) := List.getElem?_eq_getElem hkm
        generalize L[k] = a at *
        generalize M[k]'hkm = b at *
        obtain ⟨g, rfl, hg, x0, x1, x2, x3⟩ := HR1.out k a ha
        obtain ⟨g', rfl, hg', y0, y1, y2, y3⟩ := HR2.out k b hb
        have HN := Lib.hid (fun h => same_no (p := p) ha hb h)
        have HY := Lib.hid (same_succ (p := p) ha hb)
        clear ha hb
        cases e1 : (a.kind != b.kind) with
        | true =>
          have HQ : Hid (tokEq p a b = false) := Lib.hid (by unfold tokEq; simp at e1; simp [e1])
          go_wp2_with fail
          go_quiet (fail)
          go_wp2_with fail
          go_ret
          exact ⟨ret_bool (HN.out HQ.out).symm, below_drews _ _ _⟩
        | false =>
          cases e2 : (a.text == b.text) with
          | false =>
            have HQ : Hid (tokEq p a b = false) := Lib.hid (by unfold tokEq; simp at e2; simp [e2])
            go_wp2_with fail
            go_quiet (fail)
            go_wp2_with fail
            go_ret
            exact ⟨ret_bool (HN.out HQ.out).symm, below_drews _ _ _⟩
          | true =>
            cases e3 : (a.n != b.n) with
            | true =>
              have HQ : Hid (tokEq p a b = false) := Lib.hid (by unfold tokEq; simp at e3; simp [e3])
              go_wp2_with fail
              go_quiet (fail)
              go_wp2_with fail
              go_ret
              exact ⟨ret_bool (HN.out HQ.out).symm, below_drews _ _ _⟩
            | false =>
              cases p with
              | false =>
                have HQ : Hid (tokEq false a b = true) := Lib.hid (by unfold tokEq; simp at e1 e2 e3; simp [e1, e2, e3])
                go_wp2_with fail
                go_quiet (fail)
                go_wp2_with fail
                go_roundw
                case rel => exact ⟨k + 1, _, by omega, by go_num, rfl, by rw [HY.out, HS.out, HQ.out]; rfl⟩
                case measure => simp [intOf]; omega
              | true =>
                cases e4 : ((a.pl : Int) != (b.pl : Int)) with
                | true =>
                  have HQ : Hid (tokEq true a b = false) := Lib.hid (by unfold tokEq; simp at e4; simp [show ¬ a.pl = b.pl from by omega])
                  go_wp2_with fail
                  go_quiet (fail)
                  go_wp2_with fail
                  go_ret
                  exact ⟨ret_bool (HN.out HQ.out).symm, below_drews _ _ _⟩
                | false =>
                  have HQ : Hid (tokEq true a b = true) := Lib.hid (by unfold tokEq; simp at e1 e2 e3 e4; simp [e1, e2, e3, show a.pl = b.pl from by omega])
                  go_wp2_with fail
                  go_quiet (fail)
                  go_wp2_with fail
                  go_roundw
                  case rel => exact ⟨k + 1, _, by omega, by go_num, rfl, by rw [HY.out, HS.out, HQ.out]; rfl⟩
                  case measure => simp [intOf]; omega
      · have HQ := Lib.hid (same_all (by omega) HL.out HS.out)
        go_wp2_with fail
        go_ret
        exact ⟨ret_bool HQ.out.symm, below_drew1 _ _⟩
  · have HQ := Lib.hid (same_len (p := p) hL)
    have hd : ((L.length : Int) != (M.length : Int)) = true := by simp; omega
    clear hL
    go_enter Tryd.func12, Tryd.ntmps12
    go_wp2_with fail
    go_ret
    exact ⟨ret_bool HQ.out.symm, Below.refl _ _⟩
end Go.Proofs.YtgecocpcbfccgaaDoor
