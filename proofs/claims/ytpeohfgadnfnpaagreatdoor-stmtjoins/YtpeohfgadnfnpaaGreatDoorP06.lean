/-
  DERIVED. Texts of the walk, packed: Node, Fit, Right.
-/
import Derived.Test.YtpeohfgadnfnpaaGreatDoorP03
import Derived.Test.YtpeohfgadnfnpaaGreatDoorP05
import Derived.Test.YtpeohfgadnfnpaaGreatDoorP02
import Derived.Test.YtpeohfgadnfnpaaGreatDoorP04
/-
  DERIVED. Layer 3: slices of nodes: those that are read, those that a call made itself; contracts of expr.takes and expr.End.
-/
namespace Go.Proofs.YtpeohfgadnfnpaaGreatDoor
open Go.RowKit

/-- The cells of a node, of nodes. -/
def nodCells (a : Nod) : List Value := [.int .i64 a.op, .int .i64 a.n, .string ⟨a.name.toArray⟩, .int .i64 a.pl]
def cellsN (L : List Nod) : List Value := L.flatMap nodCells
theorem cellsN_app (L M : List Nod) : cellsN (L ++ M) = cellsN L ++ cellsN M := by simp [cellsN]
theorem cellsN_one (a : Nod) : cellsN [a] = nodCells a := by simp [cellsN]
theorem cellsN_len (L : List Nod) : (cellsN L).length = L.length * 4 := by
  induction L with
  | nil => rfl
  | cons t L ih => unfold cellsN at *; rw [List.flatMap_cons, List.length_append, ih]; simp [nodCells]; omega
theorem cellsN_at : ∀ (L : List Nod) (i : Nat) (t : Nod) (j : Nat) (u : Value), L[i]? = some t → (nodCells t)[j]? = some u → (cellsN L)[i * 4 + j]? = some u
  | [], i, t, j, u, h, _ => by simp at h
  | a :: L, 0, t, j, u, h, hj => by
    simp at h; subst h
    unfold cellsN
    rw [List.flatMap_cons, List.getElem?_append_left (by have := (List.getElem?_eq_some_iff.1 hj).1; omega)]
    simpa using hj
  | a :: L, i + 1, t, j, u, h, hj => by
    have ih := cellsN_at L i t j u (by simpa using h) hj
    unfold cellsN at *
    rw [List.flatMap_cons, List.getElem?_append_right (by simp [nodCells]; omega)]
    rw [← ih]; congr 1; simp [nodCells]; omega
theorem cellsN_back : ∀ (L : List Nod) (j : Nat) (u : Value), (cellsN L)[j]? = some u → ∃ i t, L[i]? = some t ∧ j = i * 4 + j % 4 ∧ (nodCells t)[j % 4]? = some u
  | [], j, u, h => by simp [cellsN] at h
  | a :: L, j, u, h => by
    unfold cellsN at h
    rw [List.flatMap_cons] at h
    by_cases hj : j < 4
    · rw [List.getElem?_append_left (by simpa [nodCells] using hj)] at h
      exact ⟨0, a, rfl, by omega, by rw [Nat.mod_eq_of_lt hj]; exact h⟩
    · rw [List.getElem?_append_right (by simp [nodCells]; omega)] at h
      have e : j - (nodCells a).length = j - 4 := by simp [nodCells]
      rw [e] at h
      obtain ⟨i, t, h1, h2, h3⟩ := cellsN_back L (j - 4) u h
      refine ⟨i + 1, t, by simpa using h1, by omega, ?_⟩
      rw [show j % 4 = (j - 4) % 4 from by omega]; exact h3
theorem nod_one (L : List Nod) : ∀ u ∈ cellsN L, u.oneCell' = true := by
  intro u hu
  unfold cellsN at hu
  rw [List.mem_flatMap] at hu
  obtain ⟨a, _, ha⟩ := hu
  simp [nodCells] at ha
  rcases ha with rfl | rfl | rfl | rfl <;> rfl
/-- A slice that the call made itself, and that holds just these nodes. -/
def OwnN (w : World) (B : Nat) (v : Value) (L : List Nod) : Prop := w.ownsRow B 33 4 v L.length (cellsN L)
/-- A slice that reads as these nodes, and lies in old memory. -/
def ReadN (w : World) (v : Value) (L : List Nod) : Prop :=
  ∃ A c, v = .slice A L.length c ∧ L.length ≤ c ∧ c ≤ maxLen ∧ (∀ i t, L[i]? = some t → ∃ g o, A = some ⟨g, o, none⟩ ∧ g < w.heap.size ∧
    w.cell? ⟨g, o + i * 4, none⟩ = some (.int .i64 t.op) ∧ w.cell? ⟨g, o + i * 4 + 1, none⟩ = some (.int .i64 t.n) ∧ w.cell? ⟨g, o + i * 4 + 2, none⟩ = some (.string ⟨t.name.toArray⟩) ∧ w.cell? ⟨g, o + i * 4 + 3, none⟩ = some (.int .i64 t.pl))
theorem OwnN.read {w : World} {B : Nat} {v : Value} {L : List Nod} (h : OwnN w B v L) : ReadN w v L := by
  rcases h.2 with ⟨rfl, h0⟩ | ⟨g, cap, cur, rfl, hB, hh, hn, hm, hs, hc⟩
  · have : L = [] := List.length_eq_zero_iff.1 h0
    subst this
    exact ⟨none, 0, rfl, Nat.le_refl _, Nat.zero_le _, fun i t h => by simp at h⟩
  · refine ⟨_, cap, rfl, hn, hm, fun i t hi => ⟨g, 0, rfl, (Array.getElem?_eq_some_iff.1 hh).1, ?_⟩⟩
    have key : ∀ j u, (nodCells t)[j]? = some u → w.cell? ⟨g, 0 + i * 4 + j, none⟩ = some u := by
      intro j u hj
      have h1 := cellsN_at L i t j u hi hj
      have hlt := (List.getElem?_eq_some_iff.1 h1).1
      rw [cellsN_len] at hlt
      rw [cell_of_row w g _ cur 33 (0, 0) hh]
      rw [← hc, List.getElem?_take, if_pos (by omega)] at h1
      simpa using h1
    exact ⟨key 0 _ rfl, key 1 _ rfl, key 2 _ rfl, key 3 _ rfl⟩
theorem ReadN.on {w w' : World} {v : Value} {L : List Nod} (h : ReadN w v L) (hb : Below w.heap.size w w') : ReadN w' v L := by
  obtain ⟨A, c, hv, hc, hm, hr⟩ := h
  refine ⟨A, c, hv, hc, hm, fun i t hi => ?_⟩
  obtain ⟨g, o, hA, hg, h0, h1, h2, h3⟩ := hr i t hi
  have e : ∀ j, w'.cell? ⟨g, j, none⟩ = w.cell? ⟨g, j, none⟩ := fun j => hb.cell (p := ⟨g, j, none⟩) hg
  exact ⟨g, o, hA, Nat.lt_of_lt_of_le hg hb.size, by rw [e]; exact h0, by rw [e]; exact h1, by rw [e]; exact h2, by rw [e]; exact h3⟩
theorem OwnN.on {w w' : World} {B : Nat} {v : Value} {L : List Nod} (h : OwnN w B v L) (hb : Below w.heap.size w w') : OwnN w' B v L := by
  obtain ⟨h1, h2⟩ := h
  refine ⟨h1, ?_⟩
  rcases h2 with h2 | ⟨g, cap, cur, hv, hg, hh, r⟩
  · exact .inl h2
  · exact .inr ⟨g, cap, cur, hv, hg, (hb.block g (Array.getElem?_eq_some_iff.1 hh).1).trans hh, r⟩
theorem OwnN.base {w : World} {B B' : Nat} {v : Value} {L : List Nod} (h : OwnN w B v L) (hB : B' ≤ B) : OwnN w B' v L := by
  obtain ⟨h1, h2⟩ := h
  refine ⟨h1, ?_⟩
  rcases h2 with h2 | ⟨g, cap, cur, hv, hg, r⟩
  · exact .inl h2
  · exact .inr ⟨g, cap, cur, hv, Nat.le_trans hB hg, r⟩
theorem ownN_nil (w : World) (B : Nat) : OwnN w B (.slice none 0 0) [] := World.ownsRow_nil _ _ _ _
/-- A part of a slice that is read. -/
theorem ReadN.part {w : World} {g o n c k to : Nat} {L : List Nod} (h : ReadN w (.slice (some ⟨g, o, none⟩) n c) L) (hk : k ≤ to) (ht : to ≤ n) : ReadN w (.slice (some ⟨g, o + k * 4, none⟩) (to - k) (c - k)) ((L.take to).drop k) := by
  obtain ⟨A, c', hv, hc, hm, hr⟩ := h
  simp only [Value.slice.injEq] at hv
  obtain ⟨rfl, rfl, rfl⟩ := hv
  refine ⟨_, _, by rw [List.length_drop, List.length_take, Nat.min_eq_left ht], by rw [List.length_drop, List.length_take, Nat.min_eq_left ht]; omega, by omega, fun i t hi => ?_⟩
  rw [List.getElem?_drop, List.getElem?_take] at hi
  split at hi
  · obtain ⟨g', o', hA, hg, h0, h1, h2, h3⟩ := hr (k + i) t hi
    simp only [Option.some.injEq, Addr.mk.injEq] at hA
    obtain ⟨rfl, rfl, _⟩ := hA
    have e : o + (k + i) * 4 = o + k * 4 + i * 4 := by omega
    rw [e] at h0 h1 h2 h3
    exact ⟨g, o + k * 4, rfl, hg, h0, h1, h2, h3⟩
  · cases hi
theorem ReadN.len {w : World} {A : Option Addr} {n c : Nat} {L : List Nod} (h : ReadN w (.slice A n c) L) : n = L.length ∧ n ≤ c ∧ c ≤ maxLen := by
  obtain ⟨A', c', hv, hc, hm, hr⟩ := h
  simp only [Value.slice.injEq] at hv
  obtain ⟨rfl, rfl, rfl⟩ := hv
  exact ⟨rfl, hc, hm⟩
theorem ReadN.addr {w : World} {v : Value} {L : List Nod} (h : ReadN w v L) (h0 : L ≠ []) : ∃ g o c, v = .slice (some ⟨g, o, none⟩) L.length c ∧ L.length ≤ c ∧ c ≤ maxLen ∧ g < w.heap.size := by
  obtain ⟨A, c, hv, hc, hm, hr⟩ := h
  cases L with
  | nil => exact absurd rfl h0
  | cons a L =>
    obtain ⟨g, o, rfl, hg, _⟩ := hr 0 a rfl
    exact ⟨g, o, c, hv, hc, hm, hg⟩

/-! ### takes -/
theorem ret_int {a b : Int} (h : a = b) : Ending.returned (.int .i64 a) = .returned (.int .i64 b) := by rw [h]
/-- What a call of one number comes back with; the world is as it was. -/
def TellsI (n : Int) (w : World) (e : Ending) (w' : World) : Prop := e = .returned (.int .i64 n) ∧ w = w'
theorem takesV_eq (op : Int) : takesV op = if op = 1 ∨ op = 2 then 0 else if op = 3 ∨ op = 4 then 1 else if 5 ≤ op ∧ op ≤ 15 then 2 else -1 := by
  unfold takesV takesN
  by_cases h1 : op = 1 ∨ op = 2
  · rw [if_pos h1, if_pos h1]; rfl
  · rw [if_neg h1, if_neg h1]
    by_cases h2 : op = 3 ∨ op = 4
    · rw [if_pos h2, if_pos h2]; rfl
    · rw [if_neg h2, if_neg h2]
      by_cases h3 : 5 ≤ op ∧ op ≤ 15
      · rw [if_pos h3, if_pos h3]; rfl
      · rw [if_neg h3, if_neg h3]
theorem takes_any (op : Int) (w : World) : Calls Tryz.prog 129 #[.int .i64 op] w (TellsI (takesV op) w) := by
  go_enter Tryz.func129, Tryz.ntmps129
  go_wp2
  all_goals
    go_ret
    refine ⟨ret_int ?_, rfl⟩
    rw [takesV_eq]
    simp_all <;> omega
theorem rkids_any (op : Int) (w : World) : Calls Tryz.prog 118 #[.int .i64 op] w (TellsI (takesV op) w) := by
  go_enter Tryz.func118, Tryz.ntmps118
  go_wp2
  all_goals
    go_ret
    refine ⟨ret_int ?_, rfl⟩
    rw [takesV_eq]
    simp_all <;> omega

/-! ### End -/
def endG (m : Nat) (L : List Nod) (k : Nat) : Int := match endC m (L.drop k) with
  | some j => ((k + j : Nat) : Int)
  | none => -1
theorem endG_start (L : List Nod) (k : Nat) : endG 0 L k = endV L k := (endV_nat L k).symm
theorem endG_out {m : Nat} {L : List Nod} {k : Nat} (h : L.length ≤ k) : endG m L k = -1 := by
  unfold endG; rw [List.drop_eq_nil_of_le h]; rfl
theorem endG_none {m : Nat} {L : List Nod} {k : Nat} {a : Nod} (h : L[k]? = some a) (ht : takesN a.op = none) : endG m L k = -1 := by
  unfold endG; rw [drop_cons h, endC_none _ ht]
theorem endG_last {L : List Nod} {k : Nat} {a : Nod} (h : L[k]? = some a) (ht : takesN a.op = some 0) : endG 0 L k = k + 1 := by
  unfold endG; rw [drop_cons h, endC_last _ ht]; simp
theorem endG_more {m t : Nat} {L : List Nod} {k : Nat} {a : Nod} (h : L[k]? = some a) (ht : takesN a.op = some t) (h2 : m + t ≠ 0) : endG m L k = endG (m + t - 1) L (k + 1) := by
  unfold endG; rw [drop_cons h, endC_more _ ht h2]
  cases endC (m + t - 1) (L.drop (k + 1)) with
  | none => rfl
  | some j => show ((k + (j + 1) : Nat) : Int) = ((k + 1 + j : Nat) : Int); omega

set_option maxRecDepth 100000 in
set_option maxHeartbeats 2000000 in
theorem end_any (v : Value) (L : List Nod) (i : Int) (w : World) (h : ReadN w v L) (hl : L.length ≤ 10000) : Calls Tryz.prog 113 #[v, .int .i64 i] w (TellsI (endV L i) w) := by
  obtain ⟨A, c, rfl, hc, hm, hr⟩ := h
  have HR := Lib.hid hr
  clear hr
  by_cases hi : i < 0
  · have HE := Lib.hid (endV_neg (L := L) hi)
    go_enter Tryz.func113, Tryz.ntmps113
    go_wp2_with fail
    go_ret
    exact ⟨ret_int HE.out.symm, rfl⟩
  · obtain ⟨n, rfl⟩ : ∃ n : Nat, i = n := ⟨i.toNat, by omega⟩
    clear hi
    go_enter Tryz.func113, Tryz.ntmps113
    go_wp2_with fail
    go_loop [1, 5] (fun i s => ∃ k m : Nat, n ≤ k ∧ (k = n ∨ k ≤ L.length) ∧ m ≤ k - n ∧ i = .int .i64 k ∧ s = .int .i64 (m + 1 : Nat) ∧ endG m L k = endV L n) (fun i _ => L.length - (intOf i).toNat)
    case atStart => exact ⟨n, 0, Nat.le_refl _, .inl rfl, Nat.zero_le _, rfl, rfl, endG_start L n⟩
    case round =>
      obtain ⟨k, m, hk, hk2, hm2, rfl, rfl, hE⟩ := hrel
      have HE := Lib.hid hE
      clear hE
      by_cases hlt : k < L.length
      · have ha : L[k]? = some L[k] := List.getElem?_eq_getElem hlt
        generalize L[k] = a at *
        obtain ⟨g, o, rfl, hg, x0, x1, x2, x3⟩ := HR.out k a ha
        cases ht : takesN a.op with
        | none =>
          have HQ := Lib.hid (endG_none (m := m) ha ht)
          have HT := Lib.hid (takesV_none ht)
          clear ha ht
          go_wp2_with fail
          refine (takes_any _ _).mono ?_
          rw [HT.out]
          rintro e w' ⟨rfl, rfl⟩
          go_wp2_with fail
          go_ret
          exact ⟨ret_int (by rw [← HE.out, HQ.out]), rfl⟩
        | some t =>
          have HT := Lib.hid (takesV_some ht)
          have ht2 := takes_le ht
          by_cases h0 : m + t = 0
          · obtain ⟨rfl, rfl⟩ : m = 0 ∧ t = 0 := by omega
            have HQ := Lib.hid (endG_last ha ht)
            clear ha ht h0
            go_wp2_with fail
            refine (takes_any _ _).mono ?_
            rw [HT.out]
            rintro e w' ⟨rfl, rfl⟩
            go_wp2_with fail
            go_ret
            exact ⟨ret_int (by rw [← HE.out, HQ.out]), rfl⟩
          · have HQ := Lib.hid (endG_more ha ht h0)
            have hne : ((m : Int) + 1 + ((t : Int) - 1) == 0) = false := beq_eq_false_iff_ne.2 (by omega)
            have HM : Hid ((m : Int) + 1 + ((t : Int) - 1) = ((m + t - 1 + 1 : Nat) : Int)) := Lib.hid (by omega)
            clear ha ht
            go_wp2_with fail
            refine (takes_any _ _).mono ?_
            rw [HT.out]
            rintro e w' ⟨rfl, rfl⟩
            go_wp2_with fail
            go_round
            case rel => exact ⟨k + 1, m + t - 1, by omega, by omega, by omega, by go_num, by rw [HM.out], by rw [← HQ.out]; exact HE.out⟩
            case measure => simp [intOf]; omega
      · have HQ := Lib.hid (endG_out (m := m) (L := L) (k := k) (by omega))
        go_wp2_with fail
        go_ret
        exact ⟨ret_int (by rw [← HE.out, HQ.out]), rfl⟩
end Go.Proofs.YtpeohfgadnfnpaaGreatDoor
/-
  DERIVED. Layer 3: which expressions are right, their parts; nothing of the program in it.
-/
namespace Go.Proofs.YtpeohfgadnfnpaaGreatDoor

def nodOK (a : Nod) : Bool := decide (0 ≤ a.pl) && decide (a.pl ≤ 4000) && (if a.op = 1 then decide (0 ≤ a.n) && decide (a.n ≤ 4294967296) && a.name.isEmpty else if a.op = 2 then decide (a.n = 0) && nameB a.name else decide (a.n = 0) && a.name.isEmpty)
/-- Is an expression right? -/
def rightL (L : List Nod) : Bool := match wholeT L with
  | some x => decide (L.length ≤ 40) && L.all nodOK && decide (x.deep ≤ 12)
  | none => false
theorem right_some {L : List Nod} (h : rightL L = true) : ∃ x, wholeT L = some x ∧ x.ok ∧ L = x.flat ∧ L.length ≤ 40 ∧ L.all nodOK = true ∧ x.deep ≤ 12 := by
  unfold rightL at h
  cases hw : wholeT L with
  | none => rw [hw] at h; cases h
  | some x =>
    rw [hw] at h
    simp only [Bool.and_eq_true, decide_eq_true_eq] at h
    obtain ⟨h1, h2⟩ := whole_some hw
    exact ⟨x, rfl, h1, h2, h.1.1, h.1.2, h.2⟩
theorem right_flat {x : Ex} (h : x.ok) : rightL x.flat = (decide (x.size ≤ 40) && x.flat.all nodOK && decide (x.deep ≤ 12)) := by
  unfold rightL; rw [whole_flat h, flat_len]
/-- The parts that stand behind the first node. -/
def Ex.kids : Ex → List Ex
  | .leaf _ => []
  | .un _ x => [x]
  | .bin _ x y => [x, y]
theorem flat_kids (x : Ex) : x.flat = x.top :: x.kids.flatMap Ex.flat := by cases x <;> simp [Ex.flat, Ex.top, Ex.kids]
def sizes (l : List Ex) : Nat := (l.map Ex.size).sum
def deeps (l : List Ex) : Nat := l.foldl (fun m y => max m (y.deep + 1)) 1
theorem size_kids (x : Ex) : x.size = 1 + sizes x.kids := by cases x <;> simp [Ex.size, sizes, Ex.kids] <;> omega
theorem deep_kids (x : Ex) : x.deep = deeps x.kids := by
  cases x with
  | leaf a => rfl
  | un a x => simp [Ex.deep, deeps, Ex.kids]
  | bin a x y => simp [Ex.deep, deeps, Ex.kids]
theorem ok_kids {x : Ex} (h : x.ok) : (∀ y ∈ x.kids, y.ok) ∧ takesN x.top.op = some x.kids.length := by
  cases x with
  | leaf a => exact ⟨fun y hy => by simp [Ex.kids] at hy, h⟩
  | un a x => exact ⟨fun y hy => by simp [Ex.kids] at hy; subst hy; exact h.2, h.1⟩
  | bin a x y => exact ⟨fun z hz => by simp [Ex.kids] at hz; rcases hz with rfl | rfl; exact h.2.1; exact h.2.2, h.1⟩
theorem deeps_snoc (l : List Ex) (y : Ex) : deeps (l ++ [y]) = max (deeps l) (y.deep + 1) := by simp [deeps]
theorem sizes_app (l m : List Ex) : sizes (l ++ m) = sizes l + sizes m := by simp [sizes]
theorem sizes_cons (y : Ex) (m : List Ex) : sizes (y :: m) = y.size + sizes m := by simp [sizes]
theorem flats_len (l : List Ex) : (l.flatMap Ex.flat).length = sizes l := by
  induction l with
  | nil => rfl
  | cons y l ih => rw [List.flatMap_cons, List.length_append, ih, flat_len, sizes_cons]
/-- The part that comes next among the nodes. -/
theorem kid_next {x y : Ex} {d r : List Ex} (h : x.kids = d ++ y :: r) : x.flat.drop (1 + sizes d) = y.flat ++ r.flatMap Ex.flat := by
  rw [flat_kids, h, Nat.add_comm, List.drop_succ_cons, List.flatMap_append, List.flatMap_cons, ← flats_len, List.drop_left]
theorem kid_end {x y : Ex} {d r : List Ex} (h : x.kids = d ++ y :: r) (ho : y.ok) : endV x.flat ((1 + sizes d : Nat) : Int) = ((1 + sizes d + y.size : Nat) : Int) := by
  rw [endV_nat, kid_next h, endC_flat y _ ho]
theorem kid_part {x y : Ex} {d r : List Ex} (h : x.kids = d ++ y :: r) : (x.flat.take (1 + sizes d + y.size)).drop (1 + sizes d) = y.flat := by
  rw [List.drop_take, kid_next h, show 1 + sizes d + y.size - (1 + sizes d) = y.flat.length from by rw [flat_len]; omega, List.take_left]
end Go.Proofs.YtpeohfgadnfnpaaGreatDoor
/-
  DERIVED. Layer 3: contracts of expr.deep, expr.wrongNode, slices.ContainsFunc at it, and expr.Right.
-/
namespace Go.Proofs.YtpeohfgadnfnpaaGreatDoor
open Go.RowKit

set_option maxRecDepth 100000 in
set_option maxHeartbeats 2000000 in
theorem deep_any : ∀ (n : Nat) (x : Ex) (v : Value) (w : World), x.size ≤ n → n ≤ 10000 → x.ok → ReadN w v x.flat → Calls Tryz.prog 116 #[v] w (TellsI x.deep w) := by
  intro n
  induction n with
  | zero => intro x v w h; have := size_pos x; omega
  | succ n ih =>
    intro x v w hs hn ho h
    obtain ⟨g, o, c, rfl, hc, hm, hg⟩ := h.addr (flat_ne x)
    have HSZ := Lib.hid (size_kids x)
    have hok := (ok_kids ho).1
    have HD := Lib.hid (deep_kids x)
    have HH := Lib.hid h
    have HI := Lib.hid ih
    have HO := Lib.hid hok
    have HL := Lib.hid (flat_len x)
    have hdz := deep_size x
    rw [flat_len] at hc ⊢
    clear ih h hok
    unfold maxLen at hm
    go_enter Tryz.func116, Tryz.ntmps116
    go_wp2_with fail
    go_loop [3, 4] (fun d f => ∃ done rest : List Ex, x.kids = done ++ rest ∧ d = .int .i64 (deeps done : Nat) ∧ f = .int .i64 (1 + sizes done : Nat) ∧ deeps done ≤ 10001) (fun _ f => x.size - (intOf f).toNat)
    case atStart => exact ⟨[], x.kids, rfl, rfl, rfl, by decide⟩
    case round =>
      obtain ⟨done, rest, hk, rfl, rfl, hd⟩ := hrel
      have HSUM : Hid (x.size = 1 + (sizes done + sizes rest)) := Lib.hid (by rw [HSZ.out, hk, sizes_app])
      cases rest with
      | nil =>
        have HX : Hid (x.deep = deeps done) := Lib.hid (by rw [HD.out, hk, List.append_nil])
        have hlt : ¬ ((1 + sizes done : Nat) : Int) < (x.size : Int) := by rw [HSUM.out]; show ¬ ((1 + sizes done : Nat) : Int) < ((1 + (sizes done + 0) : Nat) : Int); omega
        clear hk
        go_wp2_with fail
        go_ret
        exact ⟨ret_int (by rw [HX.out]), rfl⟩
      | cons y rest =>
        have hp := size_pos y
        have hle : 1 + sizes done + y.size ≤ x.size := by rw [HSUM.out, sizes_cons]; omega
        have hoy : y.ok := HO.out y (by rw [hk]; simp)
        have HE := Lib.hid (kid_end hk hoy)
        have HP := Lib.hid (kid_part hk)
        have HS := Lib.hid (deeps_snoc done y)
        have HZ : Hid (sizes (done ++ [y]) = sizes done + y.size) := Lib.hid (by rw [sizes_app]; simp [sizes])
        have HK : Hid (x.kids = (done ++ [y]) ++ rest) := Lib.hid (by rw [hk]; simp)
        have hdy := deep_size y
        have HY := Lib.hid hoy
        clear hk hoy
        have hlt : ((1 + sizes done : Nat) : Int) < (x.size : Int) := by omega
        generalize hfr : 1 + sizes done = fr at *
        have HF := Lib.hid hfr
        clear hfr
        go_wp2_with fail
        refine (end_any _ x.flat _ _ (by rw [← HL.out]; exact HH.out) (by rw [HL.out]; omega)).mono ?_
        rw [HE.out]
        rintro e w' ⟨rfl, rfl⟩
        go_wp2_with fail
        refine (HI.out y _ _ ?h1 (by omega) HY.out ?h2).mono ?_
        case h1 => have := HF.out; omega
        case h2 =>
          have hq := ReadN.part (k := fr) (to := fr + y.size) HH.out (by omega) (by rw [HL.out]; omega)
          rw [HP.out, show fr + y.size - fr = y.size from by omega] at hq
          exact hq
        rintro e w' ⟨rfl, rfl⟩
        go_wp2_with fail
        go_round
        case rel => exact ⟨done ++ [y], rest, HK.out, by rw [HS.out]; first | rfl | go_num | (congr 1; omega), by rw [HZ.out, ← HF.out]; first | rfl | (congr 1; omega), by rw [HS.out]; omega⟩
        case measure => simp [intOf]; omega

/-- A node as a value. -/
def nodV (a : Nod) : Value := .agg #[.int .i64 a.op, .int .i64 a.n, .string ⟨a.name.toArray⟩, .int .i64 a.pl]
theorem empty_cases (l : List UInt8) : (l.isEmpty = true ∧ (l == []) = true ∧ l = []) ∨ (l.isEmpty = false ∧ (l == []) = false ∧ l ≠ []) := by
  cases l with
  | nil => exact .inl ⟨rfl, rfl, rfl⟩
  | cons c l => exact .inr ⟨rfl, rfl, by simp⟩

set_option maxRecDepth 100000 in
set_option maxHeartbeats 2000000 in
theorem wrong_any (a : Nod) (w : World) (hn : a.name.length ≤ 100000) : Calls Tryz.prog 115 #[.agg #[.int .i64 a.op, .int .i64 a.n, .string ⟨a.name.toArray⟩, .int .i64 a.pl]] w (TellsB (!nodOK a) w) := by
  obtain ⟨op, n, name, pl⟩ := a
  simp only at hn ⊢
  go_enter Tryz.func115, Tryz.ntmps115
  go_wp2_with fail
  case isTrue =>
    refine (name_any ⟨name.toArray⟩ _ (by show name.toArray.size ≤ _; simpa using hn)).mono ?_
    rw [show (ByteArray.mk name.toArray).data.toList = name from by simp]
    rintro e w1 ⟨rfl, hb⟩
    have HB := Lib.hid (below_box hb)
    clear hb
    go_wp2_with fail
    go_ret
    exact ⟨ret_bool (by simp_all [nodOK]), HB.out⟩
  all_goals
    go_ret
    refine ⟨ret_bool ?_, (Below.refl _ _).alloc (Nat.le_refl _) _⟩
    simp_all [nodOK]
    try omega

/-! ### Is there a node that is wrong? -/
theorem all_succN {p : Nod → Bool} {L : List Nod} {k : Nat} {a : Nod} (h : L[k]? = some a) (ha : (L.take k).all p = true) (hp : p a = true) : (L.take (k + 1)).all p = true := by
  rw [List.take_add_one, h, List.all_append, ha]; simp [hp]
theorem any_wrong {L : List Nod} {k : Nat} {a : Nod} (h : L[k]? = some a) (hp : nodOK a = false) : L.all nodOK = false := by
  rw [List.all_eq_false]; exact ⟨a, List.mem_of_getElem? h, by simp [hp]⟩
def SmallN (L : List Nod) : Prop := ∀ a ∈ L, a.name.length ≤ 100000
/-- An index, or -1; it tells whether all nodes are right. -/
def GivesX (b : Bool) (w : World) (e : Ending) (w' : World) : Prop := ∃ n : Int, e = .returned (.int .i64 n) ∧ decide (0 ≤ n) = b ∧ Below w.heap.size w w'

set_option maxRecDepth 100000 in
set_option maxHeartbeats 2000000 in
theorem indexWrong_any (v : Value) (L : List Nod) (w : World) (h : ReadN w v L) (hl : L.length ≤ 10000) (hs : SmallN L) : Calls Tryz.prog 130 #[v, .func (.func 115) #[] #[]] w (GivesX (!L.all nodOK) w) := by
  have HS := Lib.hid hs
  have HR := Lib.hid h
  obtain ⟨A, c, hv, hc, hm, hr⟩ := h
  subst hv
  clear hr hs
  go_enter Tryz.func130, Tryz.ntmps130
  go_wp2_with fail
  go_loopw [8] (fun i wr => ∃ k : Nat, k ≤ L.length ∧ i = .int .i64 k ∧ (L.take k).all nodOK = true ∧ Below w.heap.size w wr) (fun i _ => L.length - (intOf i).toNat)
  case atStart => exact ⟨0, Nat.zero_le _, rfl, rfl, Below.refl _ _⟩
  case round =>
    obtain ⟨k, hk, rfl, ha, hb⟩ := hrel
    have HA := Lib.hid ha
    have HB := Lib.hid hb
    clear ha
    by_cases hlt : k < L.length
    · have hat : L[k]? = some L[k] := List.getElem?_eq_getElem hlt
      have hsm := HS.out _ (List.getElem_mem hlt)
      generalize L[k] = a at *
      obtain ⟨A', c', hv', _, _, hr'⟩ := HR.out.on hb
      obtain ⟨rfl, _, rfl⟩ : A = A' ∧ True ∧ c = c' := by simpa using hv'
      obtain ⟨g, o, rfl, hg, x0, x1, x2, x3⟩ := hr' k a hat
      clear hr' hv' hb
      cases hw : nodOK a with
      | true =>
        have HN := Lib.hid (all_succN hat HA.out hw)
        have HW := Lib.hid hw
        clear hat hw
        go_wp2_with fail
        refine (wrong_any a _ hsm).mono ?_
        rw [HW.out]
        rintro e w1 ⟨rfl, hb⟩
        have HB2 := Lib.hid (below_then HB.out hb)
        clear hb
        go_wp2_with fail
        go_roundw
        case rel => exact ⟨k + 1, by omega, by go_num, HN.out, HB2.out⟩
        case measure => simp [intOf]; omega
      | false =>
        have HN := Lib.hid (any_wrong hat hw)
        have HW := Lib.hid hw
        clear hat hw
        go_wp2_with fail
        refine (wrong_any a _ hsm).mono ?_
        rw [HW.out]
        rintro e w1 ⟨rfl, hb⟩
        have HB2 := Lib.hid (below_then HB.out hb)
        clear hb
        go_wp2_with fail
        go_ret
        exact ⟨k, rfl, by rw [HN.out]; simp, HB2.out⟩
    · have HN : Hid (L.all nodOK = true) := Lib.hid (by have := HA.out; rwa [List.take_of_length_le (by omega)] at this)
      clear hb
      go_wp2_with fail
      go_ret
      exact ⟨-1, rfl, by rw [HN.out]; rfl, HB.out⟩

set_option maxHeartbeats 2000000 in
theorem anyWrong_any (v : Value) (L : List Nod) (w : World) (h : ReadN w v L) (hl : L.length ≤ 10000) (hs : SmallN L) : Calls Tryz.prog 114 #[v, .func (.func 115) #[] #[]] w (TellsB (!L.all nodOK) w) := by
  have HH := Lib.hid h
  have HS := Lib.hid hs
  clear h hs
  go_enter Tryz.func114, Tryz.ntmps114
  go_wp2_with fail
  refine (indexWrong_any v L _ HH.out hl HS.out).mono ?_
  rintro e w1 ⟨n, rfl, hn, hb⟩
  have HN := Lib.hid hn
  have HB := Lib.hid hb
  clear hn hb
  go_wp2_with fail
  go_ret
  exact ⟨ret_bool HN.out, HB.out⟩

set_option maxRecDepth 100000 in
set_option maxHeartbeats 2000000 in
theorem right_any (v : Value) (L : List Nod) (w : World) (h : ReadN w v L) (hl : L.length ≤ 10000) (hs : SmallN L) : Calls Tryz.prog 80 #[v] w (TellsB (rightL L) w) := by
  have HH := Lib.hid h
  have HS := Lib.hid hs
  obtain ⟨A, c, hv, hc, hm, hr⟩ := h
  subst hv
  clear hr hs
  by_cases h40 : L.length ≤ 40
  · cases hw : wholeT L with
    | none =>
      have HE := Lib.hid (end_not hw)
      have HR : Hid (rightL L = false) := Lib.hid (by unfold rightL; rw [hw])
      obtain ⟨n, hn⟩ : ∃ n, endV L 0 = n := ⟨_, rfl⟩
      have HNN := Lib.hid hn
      have hne : (n == (L.length : Int)) = false := beq_eq_false_iff_ne.2 (by rw [← hn]; exact HE.out)
      clear hn hw
      go_enter Tryz.func80, Tryz.ntmps80
      go_wp2_with fail
      refine (end_any _ L 0 _ HH.out hl).mono ?_
      rw [HNN.out]
      rintro e w' ⟨rfl, rfl⟩
      go_wp2_with fail
      go_ret
      exact ⟨ret_bool HR.out.symm, Below.refl _ _⟩
    | some x =>
      have HE := Lib.hid (end_whole hw)
      obtain ⟨ho, hf⟩ := whole_some hw
      have HF := Lib.hid hf
      have HO := Lib.hid ho
      have HX : Hid (rightL L = (L.all nodOK && decide (x.deep ≤ 12))) := Lib.hid (by unfold rightL; rw [hw]; simp [h40])
      have hsz : x.size ≤ 40 := by rw [← flat_len, ← hf]; exact h40
      clear hw hf ho
      cases ha : L.all nodOK with
      | false =>
        have HA := Lib.hid ha
        have HR : Hid (rightL L = false) := Lib.hid (by rw [HX.out, ha]; rfl)
        clear ha
        go_enter Tryz.func80, Tryz.ntmps80
        go_wp2_with fail
        refine (end_any _ L 0 _ HH.out hl).mono ?_
        rw [HE.out]
        rintro e w' ⟨rfl, rfl⟩
        go_wp2_with fail
        refine (anyWrong_any _ L _ HH.out hl HS.out).mono ?_
        rw [HA.out]
        rintro e w1 ⟨rfl, hb⟩
        go_wp2_with fail
        go_ret
        exact ⟨ret_bool HR.out.symm, hb⟩
      | true =>
        have HA := Lib.hid ha
        have HR : Hid (rightL L = decide (x.deep ≤ 12)) := Lib.hid (by rw [HX.out, ha]; rfl)
        clear ha
        go_enter Tryz.func80, Tryz.ntmps80
        go_wp2_with fail
        refine (end_any _ L 0 _ HH.out hl).mono ?_
        rw [HE.out]
        rintro e w' ⟨rfl, rfl⟩
        go_wp2_with fail
        refine (anyWrong_any _ L _ HH.out hl HS.out).mono ?_
        rw [HA.out]
        rintro e w1 ⟨rfl, hb⟩
        have HB := Lib.hid hb
        clear hb
        go_wp2_with fail
        refine (deep_any 40 x _ _ hsz (by omega) HO.out (by rw [← HF.out]; exact HH.out.on HB.out)).mono ?_
        rintro e w' ⟨rfl, rfl⟩
        go_wp2_with fail
        go_ret
        exact ⟨ret_bool (by rw [HR.out, Bool.eq_iff_iff]; simp; omega), HB.out⟩
  · have HR : Hid (rightL L = false) := Lib.hid (by unfold rightL; cases wholeT L <;> simp [h40])
    go_enter Tryz.func80, Tryz.ntmps80
    go_wp2_with fail
    go_ret
    exact ⟨ret_bool HR.out.symm, Below.refl _ _⟩
end Go.Proofs.YtpeohfgadnfnpaaGreatDoor
