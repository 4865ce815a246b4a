/-
  DERIVED. Layer 3: slices of nodes: those that are read, those that a call made itself; contracts of expr.takes and expr.End.
-/
import Derived.Test.YtcmbcbdijmknnaaDoorShow
import Derived.Test.YtcmbcbdijmknnaaDoorRead
namespace Go.Proofs.YtcmbcbdijmknnaaDoor
open Go.RowKit

/-- The cells of a node, of nodes. -/
def nodCells (a : Nod) : List Value := [.int .i64 a.op, .int .i64 a.n, .string ⟨a.name.toArray⟩, .int .i64 a.pl]
def cellsN (L : List Nod) : List Value := L.flatMap nodCells
theorem cellsN_app (L M : List Nod) : cellsN (L ++ M) = cellsN L ++ cellsN M := by simp [cellsN]
theorem cellsN_one (a : Nod) : cellsN [a] = nodCells a := by simp [cellsN]
theorem cellsN_len (L : List Nod) : (cellsN L).length = L.length * 4 := by
  induction L with
  | nil => rfl
  | cons t L ih => unfold cellsN at *; rw [List.flatMap_cons, List.length_append, ih]; simp [nodCells]; omega
theorem cellsN_at : ∀ (L : List Nod) (i : Nat) (t : Nod) (j : Nat) (u : Value), L[i]? = some t → (nodCells t)[j]? = some u → (cellsN L)[i * 4 + j]? = some u
  | [], i, t, j, u, h, _ => by simp at h
  | a :: L, 0, t, j, u, h, hj => by
    simp at h; subst h
    unfold cellsN
    rw [List.flatMap_cons, List.getElem?_append_left (by have := (List.getElem?_eq_some_iff.1 hj).1; omega)]
    simpa using hj
  | a :: L, i + 1, t, j, u, h, hj => by
    have ih := cellsN_at L i t j u (by simpa using h) hj
    unfold cellsN at *
    rw [List.flatMap_cons, List.getElem?_append_right (by simp [nodCells]; omega)]
    rw [← ih]; congr 1; simp [nodCells]; omega
theorem cellsN_back : ∀ (L : List Nod) (j : Nat) (u : Value), (cellsN L)[j]? = some u → ∃ i t, L[i]? = some t ∧ j = i * 4 + j % 4 ∧ (nodCells t)[j % 4]? = some u
  | [], j, u, h => by simp [cellsN] at h
  | a :: L, j, u, h => by
    unfold cellsN at h
    rw [List.flatMap_cons] at h
    by_cases hj : j < 4
    · rw [List.getElem?_append_left (by simpa [nodCells] using hj)] at h
      exact ⟨0, a, rfl, by omega, by rw [Nat.mod_eq_of_lt hj]; exact h⟩
    · rw [List.getElem?_append_right (by simp [nodCells]; omega)] at h
      have e : j - (nodCells a).length = j - 4 := by simp [nodCells]
      rw [e] at h
      obtain ⟨i, t, h1, h2, h3⟩ := cellsN_back L (j - 4) u h
      refine ⟨i + 1, t, by simpa using h1, by omega, ?_⟩
      rw [show j % 4 = (j - 4) % 4 from by omega]; exact h3
theorem nod_one (L : List Nod) : ∀ u ∈ cellsN L, u.oneCell' = true := by
  intro u hu
  unfold cellsN at hu
  rw [List.mem_flatMap] at hu
  obtain ⟨a, _, ha⟩ := hu
  simp [nodCells] at ha
  rcases ha with rfl | rfl | rfl | rfl <;> rfl
/-- A slice that the call made itself, and that holds just these nodes. -/
def OwnN (w : World) (B : Nat) (v : Value) (L : List Nod) : Prop := w.ownsRow B 30 4 v L.length (cellsN L)
/-- A slice that reads as these nodes, and lies in old memory. -/
def ReadN (w : World) (v : Value) (L : List Nod) : Prop :=
  ∃ A c, v = .slice A L.length c ∧ L.length ≤ c ∧ c ≤ maxLen ∧ (∀ i t, L[i]? = some t → ∃ g o, A = some ⟨g, o, none⟩ ∧ g < w.heap.size ∧
    w.cell? ⟨g, o + i * 4, none⟩ = some (.int .i64 t.op) ∧ w.cell? ⟨g, o + i * 4 + 1, none⟩ = some (.int .i64 t.n) ∧ w.cell? ⟨g, o + i * 4 + 2, none⟩ = some (.string ⟨t.name.toArray⟩) ∧ w.cell? ⟨g, o + i * 4 + 3, none⟩ = some (.int .i64 t.pl))
theorem OwnN.read {w : World} {B : Nat} {v : Value} {L : List Nod} (h : OwnN w B v L) : ReadN w v L := by
  rcases h.2 with ⟨rfl, h0⟩ | ⟨g, cap, cur, rfl, hB, hh, hn, hm, hs, hc⟩
  · have : L = [] := List.length_eq_zero_iff.1 h0
    subst this
    exact ⟨none, 0, rfl, Nat.le_refl _, Nat.zero_le _, fun i t h => by simp at h⟩
  · refine ⟨_, cap, rfl, hn, hm, fun i t hi => ⟨g, 0, rfl, (Array.getElem?_eq_some_iff.1 hh).1, ?_⟩⟩
    have key : ∀ j u, (nodCells t)[j]? = some u → w.cell? ⟨g, 0 + i * 4 + j, none⟩ = some u := by
      intro j u hj
      have h1 := cellsN_at L i t j u hi hj
      have hlt := (List.getElem?_eq_some_iff.1 h1).1
      rw [cellsN_len] at hlt
      rw [cell_of_row w g _ cur 30 (0, 0) hh]
      rw [← hc, List.getElem?_take, if_pos (by omega)] at h1
      simpa using h1
    exact ⟨key 0 _ rfl, key 1 _ rfl, key 2 _ rfl, key 3 _ rfl⟩
theorem ReadN.on {w w' : World} {v : Value} {L : List Nod} (h : ReadN w v L) (hb : Below w.heap.size w w') : ReadN w' v L := by
  obtain ⟨A, c, hv, hc, hm, hr⟩ := h
  refine ⟨A, c, hv, hc, hm, fun i t hi => ?_⟩
  obtain ⟨g, o, hA, hg, h0, h1, h2, h3⟩ := hr i t hi
  have e : ∀ j, w'.cell? ⟨g, j, none⟩ = w.cell? ⟨g, j, none⟩ := fun j => hb.cell (p := ⟨g, j, none⟩) hg
  exact ⟨g, o, hA, Nat.lt_of_lt_of_le hg hb.size, by rw [e]; exact h0, by rw [e]; exact h1, by rw [e]; exact h2, by rw [e]; exact h3⟩
theorem OwnN.on {w w' : World} {B : Nat} {v : Value} {L : List Nod} (h : OwnN w B v L) (hb : Below w.heap.size w w') : OwnN w' B v L := by
  obtain ⟨h1, h2⟩ := h
  refine ⟨h1, ?_⟩
  rcases h2 with h2 | ⟨g, cap, cur, hv, hg, hh, r⟩
  · exact .inl h2
  · exact .inr ⟨g, cap, cur, hv, hg, (hb.block g (Array.getElem?_eq_some_iff.1 hh).1).trans hh, r⟩
theorem OwnN.base {w : World} {B B' : Nat} {v : Value} {L : List Nod} (h : OwnN w B v L) (hB : B' ≤ B) : OwnN w B' v L := by
  obtain ⟨h1, h2⟩ := h
  refine ⟨h1, ?_⟩
  rcases h2 with h2 | ⟨g, cap, cur, hv, hg, r⟩
  · exact .inl h2
  · exact .inr ⟨g, cap, cur, hv, Nat.le_trans hB hg, r⟩
theorem ownN_nil (w : World) (B : Nat) : OwnN w B (.slice none 0 0) [] := World.ownsRow_nil _ _ _ _
/-- A part of a slice that is read. -/
theorem ReadN.part {w : World} {g o n c k to : Nat} {L : List Nod} (h : ReadN w (.slice (some ⟨g, o, none⟩) n c) L) (hk : k ≤ to) (ht : to ≤ n) : ReadN w (.slice (some ⟨g, o + k * 4, none⟩) (to - k) (c - k)) ((L.take to).drop k) := by
  obtain ⟨A, c', hv, hc, hm, hr⟩ := h
  simp only [Value.slice.injEq] at hv
  obtain ⟨rfl, rfl, rfl⟩ := hv
  refine ⟨_, _, by rw [List.length_drop, List.length_take, Nat.min_eq_left ht], by rw [List.length_drop, List.length_take, Nat.min_eq_left ht]; omega, by omega, fun i t hi => ?_⟩
  rw [List.getElem?_drop, List.getElem?_take] at hi
  split at hi
  · obtain ⟨g', o', hA, hg, h0, h1, h2, h3⟩ := hr (k + i) t hi
    simp only [Option.some.injEq, Addr.mk.injEq] at hA
    obtain ⟨rfl, rfl, _⟩ := hA
    have e : o + (k + i) * 4 = o + k * 4 + i * 4 := by omega
    rw [e] at h0 h1 h2 h3
    exact ⟨g, o + k * 4, rfl, hg, h0, h1, h2, h3⟩
  · cases hi
theorem ReadN.len {w : World} {A : Option Addr} {n c : Nat} {L : List Nod} (h : ReadN w (.slice A n c) L) : n = L.length ∧ n ≤ c ∧ c ≤ maxLen := by
  obtain ⟨A', c', hv, hc, hm, hr⟩ := h
  simp only [Value.slice.injEq] at hv
  obtain ⟨rfl, rfl, rfl⟩ := hv
  exact ⟨rfl, hc, hm⟩
theorem ReadN.addr {w : World} {v : Value} {L : List Nod} (h : ReadN w v L) (h0 : L ≠ []) : ∃ g o c, v = .slice (some ⟨g, o, none⟩) L.length c ∧ L.length ≤ c ∧ c ≤ maxLen ∧ g < w.heap.size := by
  obtain ⟨A, c, hv, hc, hm, hr⟩ := h
  cases L with
  | nil => exact absurd rfl h0
  | cons a L =>
    obtain ⟨g, o, rfl, hg, _⟩ := hr 0 a rfl
    exact ⟨g, o, c, hv, hc, hm, hg⟩

/-! ### takes -/
theorem ret_int {a b : Int} (h : a = b) : Ending.returned (.int .i64 a) = .returned (.int .i64 b) := by rw [h]
/-- What a call of one number comes back with; the world is as it was. -/
def TellsI (n : Int) (w : World) (e : Ending) (w' : World) : Prop := e = .returned (.int .i64 n) ∧ w = w'
theorem takesV_eq (op : Int) : takesV op = if op = 1 ∨ op = 2 then 0 else if op = 3 ∨ op = 4 then 1 else if 5 ≤ op ∧ op ≤ 15 then 2 else -1 := by
  unfold takesV takesN
  by_cases h1 : op = 1 ∨ op = 2
  · rw [if_pos h1, if_pos h1]; rfl
  · rw [if_neg h1, if_neg h1]
    by_cases h2 : op = 3 ∨ op = 4
    · rw [if_pos h2, if_pos h2]; rfl
    · rw [if_neg h2, if_neg h2]
      by_cases h3 : 5 ≤ op ∧ op ≤ 15
      · rw [if_pos h3, if_pos h3]; rfl
      · rw [if_neg h3, if_neg h3]
theorem takes_any (op : Int) (w : World) : Calls Tryd.prog 42 #[.int .i64 op] w (TellsI (takesV op) w) := by
  go_enter Tryd.func42, Tryd.ntmps42
  go_wp2
  all_goals
    go_ret
    refine ⟨ret_int ?_, rfl⟩
    rw [takesV_eq]
    simp_all <;> omega
theorem rkids_any (op : Int) (w : World) : Calls Tryd.prog 43 #[.int .i64 op] w (TellsI (takesV op) w) := by
  go_enter Tryd.func43, Tryd.ntmps43
  go_wp2
  all_goals
    go_ret
    refine ⟨ret_int ?_, rfl⟩
    rw [takesV_eq]
    simp_all <;> omega

/-! ### End -/
def endG (m : Nat) (L : List Nod) (k : Nat) : Int := match endC m (L.drop k) with
  | some j => ((k + j : Nat) : Int)
  | none => -1
theorem endG_start (L : List Nod) (k : Nat) : endG 0 L k = endV L k := (endV_nat L k).symm
theorem endG_out {m : Nat} {L : List Nod} {k : Nat} (h : L.length ≤ k) : endG m L k = -1 := by
  unfold endG; rw [List.drop_eq_nil_of_le h]; rfl
theorem endG_none {m : Nat} {L : List Nod} {k : Nat} {a : Nod} (h : L[k]? = some a) (ht : takesN a.op = none) : endG m L k = -1 := by
  unfold endG; rw [drop_cons h, endC_none _ ht]
theorem endG_last {L : List Nod} {k : Nat} {a : Nod} (h : L[k]? = some a) (ht : takesN a.op = some 0) : endG 0 L k = k + 1 := by
  unfold endG; rw [drop_cons h, endC_last _ ht]; simp
theorem endG_more {m t : Nat} {L : List Nod} {k : Nat} {a : Nod} (h : L[k]? = some a) (ht : takesN a.op = some t) (h2 : m + t ≠ 0) : endG m L k = endG (m + t - 1) L (k + 1) := by
  unfold endG; rw [drop_cons h, endC_more _ ht h2]
  cases endC (m + t - 1) (L.drop (k + 1)) with
  | none => rfl
  | some j => show ((k + (j + 1) : Nat) : Int) = ((k + 1 + j : Nat) : Int); omega

set_option maxRecDepth 100000 in
set_option maxHeartbeats 2000000 in
theorem end_any (v : Value) (L : List Nod) (i : Int) (w : World) (h : ReadN w v L) (hl : L.length ≤ 10000) : Calls Tryd.prog 26 #[v, .int .i64 i] w (TellsI (endV L i) w) := by
  obtain ⟨A, c, rfl, hc, hm, hr⟩ := h
  have HR := Lib.hid hr
  clear hr
  by_cases hi : i < 0
  · have HE := Lib.hid (endV_neg (L := L) hi)
    go_enter Tryd.func26, Tryd.ntmps26
    go_wp2_with fail
    go_ret
    exact ⟨ret_int HE.out.symm, rfl⟩
  · obtain ⟨n, rfl⟩ : ∃ n : Nat, i = n := ⟨i.toNat, by omega⟩
    clear hi
    go_enter Tryd.func26, Tryd.ntmps26
    go_wp2_with fail
    go_loop [1, 5] (fun i s => ∃ k m : Nat, n ≤ k ∧ (k = n ∨ k ≤ L.length) ∧ m ≤ k - n ∧ i = .int .i64 k ∧ s = .int .i64 (m + 1 : Nat) ∧ endG m L k = endV L n) (fun i _ => L.length - (intOf i).toNat)
    case atStart => exact ⟨n, 0, Nat.le_refl _, .inl rfl, Nat.zero_le _, rfl, rfl, endG_start L n⟩
    case round =>
      obtain ⟨k, m, hk, hk2, hm2, rfl, rfl, hE⟩ := hrel
      have HE := Lib.hid hE
      clear hE
      by_cases hlt : k < L.length
      · have ha : L[k]? = some L[k] := List.getElem?_eq_getElem hlt
        generalize L[k] = a at *
        obtain ⟨g, o, rfl, hg, x0, x1, x2, x3⟩ := HR.out k a ha
        cases ht : takesN a.op with
        | none =>
          have HQ := Lib.hid (endG_none (m := m) ha ht)
          have HT := Lib.hid (takesV_none ht)
          clear ha ht
          go_wp2_with fail
          refine (takes_any _ _).mono ?_
          rw [HT.out]
          rintro e w' ⟨rfl, rfl⟩
          go_wp2_with fail
          go_ret
          exact ⟨ret_int (by rw [← HE.out, HQ.out]), rfl⟩
        | some t =>
          have HT := Lib.hid (takesV_some ht)
          have ht2 := takes_le ht
          by_cases h0 : m + t = 0
          · obtain ⟨rfl, rfl⟩ : m = 0 ∧ t = 0 := by omega
            have HQ := Lib.hid (endG_last ha ht)
            clear ha ht h0
            go_wp2_with fail
            refine (takes_any _ _).mono ?_
            rw [HT.out]
            rintro e w' ⟨rfl, rfl⟩
            go_wp2_with fail
            go_ret
            exact ⟨ret_int (by rw [← HE.out, HQ.out]), rfl⟩
          · have HQ := Lib.hid (endG_more ha ht h0)
            have hne : ((m : Int) + 1 + ((t : Int) - 1) == 0) = false := beq_eq_false_iff_ne.2 (by omega)
            have HM : Hid ((m : Int) + 1 + ((t : Int) - 1) = ((m + t - 1 + 1 : Nat) : Int)) := Lib.hid (by omega)
            clear ha ht
            go_wp2_with fail
            refine (takes_any _ _).mono ?_
            rw [HT.out]
            rintro e w' ⟨rfl, rfl⟩
            go_wp2_with fail
            go_round
            case rel => exact ⟨k + 1, m + t - 1, by omega, by omega, by omega, by go_num, by rw [HM.out], by rw [← HQ.out]; exact HE.out⟩
            case measure => simp [intOf]; omega
      · have HQ := Lib.hid (endG_out (m := m) (L := L) (k := k) (by omega))
        go_wp2_with fail
        go_ret
        exact ⟨ret_int (by rw [← HE.out, HQ.out]), rfl⟩
end Go.Proofs.YtcmbcbdijmknnaaDoor
