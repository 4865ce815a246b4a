/-
  DERIVED. Texts of the walk, packed: StRead, StFine.
-/
import Derived.Test.YtpeohfgadnfnpaaGreatDoorP09
import Derived.Test.YtpeohfgadnfnpaaGreatDoorP19
/-
  DERIVED. Layer 4: how statements are read of tokens, token by token; nothing of the program in it.
-/
namespace Go.Proofs.YtpeohfgadnfnpaaGreatDoor
open Go

/-- What is read, and the place behind it; or an error and a place. -/
inductive RS (α : Type) where
  | ok (a : α) (to : Nat)
  | bad (e pl : Int)
def RS.bind {α β : Type} : RS α → (α → Nat → RS β) → RS β
  | .ok a to, k => k a to
  | .bad e p, _ => .bad e p
@[simp] theorem RS.bind_ok {α β : Type} (a : α) (to : Nat) (k : α → Nat → RS β) : (RS.ok a to).bind k = k a to := rfl
@[simp] theorem RS.bind_bad {α β : Type} (e p : Int) (k : α → Nat → RS β) : (RS.bad e p : RS α).bind k = .bad e p := rfl
def badR {α : Type} (L : List Tok) (i : Nat) (e : Int) : RS α := .bad (if i < L.length then e else 6) (placeV L i)
def mustP (L : List Tok) (i : Nat) (s : List UInt8) : RS Unit := if isB L i s = true then .ok () (i + 1) else badR L i 5
def nameAt (L : List Tok) (i : Nat) : Option (List UInt8) := match L[i]? with
  | some t => if t.kind = 1 ∧ nameB t.text = true then some t.text else none
  | none => none
def nameP (L : List Tok) (i : Nat) : RS (List UInt8) := match nameAt L i with
  | some s => .ok s (i + 1)
  | none => badR L i 5
def exprP (L : List Tok) (i : Nat) : RS (List Nod) := if (exprV L i).err = 0 then .ok (exprV L i).nodes (exprV L i).to.toNat else .bad (exprV L i).err (exprV L i).pl
def timesP (L : List Tok) (i : Nat) : RS Int := match L[i]? with
  | some t => if t.kind = 2 then (if 1 ≤ t.n ∧ t.n ≤ 8 then .ok t.n (i + 1) else badR L i 11) else badR L i 5
  | none => badR L i 5
/-- The statement's kind that begins at a place. -/
def kindAt (L : List Tok) (i : Nat) : Nat := ((List.range 15).find? (fun k => decide (2 ≤ k) && isB L i (kwTab.getD k []))).getD 1
def stm0 (k : Int) (pl : Int) : Stm := ⟨k, [], [], [], [], 0, 0, 0, pl⟩
/-- A statement from behind its word on, without its blocks and its end. -/
def plainP (L : List Tok) (k : Nat) (pl : Int) (i : Nat) : RS Stm :=
  if k = 1 then (nameP L i).bind fun r j => (mustP L j [61]).bind fun _ j => (exprP L j).bind fun e j => .ok { stm0 k pl with reg := r, e := e } j
  else if k = 2 then (nameP L i).bind fun r j => (mustP L j [61]).bind fun _ j => (nameP L j).bind fun n j => .ok { stm0 k pl with reg := r, name := n } j
  else if k = 3 then (nameP L i).bind fun n j => (mustP L j [61]).bind fun _ j => (exprP L j).bind fun e j => .ok { stm0 k pl with name := n, e := e } j
  else if k = 4 then (nameP L i).bind fun r j => (mustP L j [61]).bind fun _ j => (nameP L j).bind fun n j => (mustP L j [44]).bind fun _ j => (exprP L j).bind fun e j => (mustP L j [44]).bind fun _ j => (exprP L j).bind fun f j => .ok { stm0 k pl with reg := r, name := n, e := e, f := f } j
  else if k = 5 ∨ k = 6 ∨ k = 9 ∨ k = 10 then (nameP L i).bind fun n j => .ok { stm0 k pl with name := n } j
  else if k = 11 ∨ k = 14 then (exprP L i).bind fun e j => .ok { stm0 k pl with e := e } j
  else if k = 12 then (timesP L i).bind fun n j => .ok { stm0 k pl with n := n } j
  else .ok (stm0 k pl) i

def RS.obind {α β : Type} : Option (RS α) → (α → Nat → Option (RS β)) → Option (RS β)
  | some (.ok a to), k => k a to
  | some (.bad e p), _ => some (.bad e p)
  | none, _ => none
@[simp] theorem RS.obind_ok {α β : Type} (a : α) (to : Nat) (k : α → Nat → Option (RS β)) : RS.obind (some (RS.ok a to)) k = k a to := rfl
@[simp] theorem RS.obind_bad {α β : Type} (e p : Int) (k : α → Nat → Option (RS β)) : RS.obind (some (RS.bad e p : RS α)) k = some (.bad e p) := rfl
@[simp] theorem RS.obind_none {α β : Type} (k : α → Nat → Option (RS β)) : RS.obind (none : Option (RS α)) k = none := rfl
theorem RS.obind_some {α β : Type} {o : Option (RS α)} {k : α → Nat → Option (RS β)} {r : RS β} (h : RS.obind o k = some r) : (∃ a to, o = some (.ok a to) ∧ k a to = some r) ∨ (∃ e p, o = some (.bad e p) ∧ r = .bad e p) := by
  rcases o with _ | ⟨a, to⟩ | ⟨e, p⟩
  · cases h
  · exact .inl ⟨a, to, rfl, h⟩
  · exact .inr ⟨e, p, rfl, by simpa using h.symm⟩
abbrev Rows4 := Nat → Nat → Nat → Option (RS Bk)
/-- A block, by how the rows within are read. -/
def blockW (row : Rows4) (L : List Tok) (i d l : Nat) : Option (RS Bk) :=
  if 12 < d ∧ isB L i [123] = true then some (badR L i 7)
  else RS.obind (some (mustP L i [123])) fun _ j => RS.obind (row j d l) fun b j => RS.obind (some (mustP L j [125])) fun _ j => some (.ok b j)
structure One where
  s : Stm
  b : Bk
  e : Bk
/-- An else, if there is one. -/
def elseW4 (row : Rows4) (L : List Tok) (k : Nat) (i d l : Nat) : Option (RS Bk) :=
  if k = 11 ∧ isB L i elseW = true then blockW row L (i + 1) d l else some (.ok .nil i)
def inL (k l : Nat) : Nat := if k = 12 then l + 1 else l
def oneW (row : Rows4) (L : List Tok) (i d l : Nat) : Option (RS One) :=
  if kindAt L i = 13 ∧ l = 0 then some (badR L i 5)
  else RS.obind (some (plainP L (kindAt L i) (placeV L i) (if kindAt L i = 1 then i else i + 1))) fun s j =>
    if ¬ blkK (kindAt L i : Nat) then RS.obind (some (mustP L j [59])) fun _ j => some (.ok ⟨s, .nil, .nil⟩ j)
    else RS.obind (blockW row L j (d + 1) (inL (kindAt L i) l)) fun b j => RS.obind (elseW4 row L (kindAt L i) j (d + 1) (inL (kindAt L i) l)) fun e j => some (.ok ⟨{ s with body := b.count, els := e.count }, b, e⟩ j)
def rowF (L : List Tok) : Nat → Rows4
  | 0 => fun _ _ _ => none
  | f + 1 => fun i d l => if isB L i [125] = true then some (.ok .nil i)
    else RS.obind (oneW (rowF L f) L i d l) fun o j => RS.obind (rowF L f j d l) fun r j => some (.ok (.cons o.s o.b o.e r) j)

/-! ### Where what is read ends. -/
def Ahead {α : Type} (L : List Tok) (i : Nat) (r : RS α) : Prop := match r with
  | .ok _ to => i < to ∧ to ≤ L.length
  | .bad e _ => e ≠ 0
def AheadE {α : Type} (L : List Tok) (i : Nat) (r : RS α) : Prop := match r with
  | .ok _ to => i ≤ to ∧ to ≤ L.length
  | .bad e _ => e ≠ 0
theorem Ahead.le {α : Type} {L : List Tok} {i : Nat} {r : RS α} (h : Ahead L i r) : AheadE L i r := by
  cases r with
  | ok a to => exact ⟨by have := h.1; omega, h.2⟩
  | bad e p => exact h
theorem bad_ahead {α : Type} {L : List Tok} {i j : Nat} {e : Int} (he : e ≠ 0) : Ahead L j (badR L i e : RS α) := by
  unfold badR Ahead; simp only; split <;> omega
theorem must_ahead (L : List Tok) (i : Nat) (s : List UInt8) : Ahead L i (mustP L i s) := by
  unfold mustP
  split
  · rename_i h; have := isB_lt h; exact ⟨by omega, by omega⟩
  · exact bad_ahead (by omega)
theorem nameAt_lt {L : List Tok} {i : Nat} {s : List UInt8} (h : nameAt L i = some s) : i < L.length ∧ nameB s = true := by
  unfold nameAt at h
  split at h
  · rename_i t ht
    split at h
    · rename_i hc
      simp at h; subst h
      exact ⟨(List.getElem?_eq_some_iff.1 ht).1, hc.2⟩
    · cases h
  · cases h
theorem name_ahead (L : List Tok) (i : Nat) : Ahead L i (nameP L i) := by
  unfold nameP
  split
  · rename_i h; have := (nameAt_lt h).1; exact ⟨by omega, by omega⟩
  · exact bad_ahead (by omega)
theorem times_ahead (L : List Tok) (i : Nat) : Ahead L i (timesP L i) := by
  unfold timesP
  split
  · rename_i t ht
    have hi := (List.getElem?_eq_some_iff.1 ht).1
    split
    · split
      · exact ⟨by omega, by omega⟩
      · exact bad_ahead (by omega)
    · exact bad_ahead (by omega)
  · exact bad_ahead (by omega)
/-- What exprV tells of a place. -/
theorem expr_cases (L : List Tok) (i : Nat) : ((exprV L i).err ≠ 0 ∧ (exprV L i).nodes = [] ∧ (exprV L i).to = 0) ∨
    (∃ x : Ex, x.ok ∧ x.deep ≤ 12 ∧ x.size ≤ 40 ∧ (∀ a ∈ x.flat, NodOf L a) ∧ ∃ to : Nat, exprV L i = ⟨x.flat, to, 0, 0⟩ ∧ i < to ∧ to ≤ L.length) := by
  have hf := parseR_fine L i
  rw [exprV_nat]
  cases hp : parseR L i with
  | bad e j =>
    rw [hp] at hf
    obtain ⟨h3, _⟩ := hf
    exact .inl ⟨by show e ≠ 0; omega, rfl, rfl⟩
  | ok x to =>
    rw [hp] at hf
    obtain ⟨g1, g2, g3, g4, g5⟩ := hf
    by_cases hd : 12 < x.deep
    · rw [exprR_deep hd]; exact .inl ⟨by show (7 : Int) ≠ 0; decide, rfl, rfl⟩
    · by_cases hs : 40 < x.size
      · rw [exprR_big hd hs]; exact .inl ⟨by show (2 : Int) ≠ 0; decide, rfl, rfl⟩
      · rw [exprR_ok hd hs]; exact .inr ⟨x, g3, by omega, by omega, g5, to, rfl, by omega, g2⟩
theorem expr_ahead (L : List Tok) (i : Nat) : Ahead L i (exprP L i) := by
  unfold exprP
  rcases expr_cases L i with ⟨h, _⟩ | ⟨x, _, _, _, _, to, h, h1, h2⟩
  · rw [if_neg h]; exact h
  · rw [h]; exact ⟨by simpa using h1, by simpa using h2⟩
theorem bind_ahead {α β : Type} {L : List Tok} {i : Nat} {r : RS α} {k : α → Nat → RS β} (h : Ahead L i r) (hk : ∀ a j, r = .ok a j → AheadE L j (k a j)) : Ahead L i (r.bind k) := by
  cases r with
  | bad e p => exact h
  | ok a j =>
    have := hk a j rfl
    have h1 := h.1
    simp only [RS.bind_ok]
    cases hr : k a j with
    | ok b to => rw [hr] at this; exact ⟨by have := this.1; omega, this.2⟩
    | bad e p => rw [hr] at this; exact this
theorem ok_ahead {α : Type} {L : List Tok} {j : Nat} (a : α) (h : j ≤ L.length) : AheadE L j (RS.ok a j) := ⟨Nat.le_refl _, h⟩
theorem Ahead.to {α : Type} {L : List Tok} {i j : Nat} {a : α} {r : RS α} (h : Ahead L i r) (e : r = .ok a j) : j ≤ L.length := by subst e; exact h.2
theorem plain_ahead (L : List Tok) (k : Nat) (pl : Int) (i : Nat) (hi : i ≤ L.length) : AheadE L i (plainP L k pl i) := by
  unfold plainP
  repeat' split
  · exact (bind_ahead (name_ahead L i) fun r j _ => (bind_ahead (must_ahead L j _) fun _ j _ => (bind_ahead (expr_ahead L j) fun e j he => ok_ahead _ ((expr_ahead L _).to he)).le).le).le
  · exact (bind_ahead (name_ahead L i) fun r j _ => (bind_ahead (must_ahead L j _) fun _ j _ => (bind_ahead (name_ahead L j) fun e j he => ok_ahead _ ((name_ahead L _).to he)).le).le).le
  · exact (bind_ahead (name_ahead L i) fun r j _ => (bind_ahead (must_ahead L j _) fun _ j _ => (bind_ahead (expr_ahead L j) fun e j he => ok_ahead _ ((expr_ahead L _).to he)).le).le).le
  · exact (bind_ahead (name_ahead L i) fun r j _ => (bind_ahead (must_ahead L j _) fun _ j _ => (bind_ahead (name_ahead L j) fun e j _ => (bind_ahead (must_ahead L j _) fun _ j _ => (bind_ahead (expr_ahead L j) fun e j _ => (bind_ahead (must_ahead L j _) fun _ j _ => (bind_ahead (expr_ahead L j) fun e j he => ok_ahead _ ((expr_ahead L _).to he)).le).le).le).le).le).le).le
  · exact (bind_ahead (name_ahead L i) fun r j he => ok_ahead _ ((name_ahead L _).to he)).le
  · exact (bind_ahead (expr_ahead L i) fun r j he => ok_ahead _ ((expr_ahead L _).to he)).le
  · exact (bind_ahead (times_ahead L i) fun r j he => ok_ahead _ ((times_ahead L _).to he)).le
  · exact ok_ahead _ hi
theorem kind_spec (L : List Tok) (i : Nat) : kindAt L i = 1 ∨ (2 ≤ kindAt L i ∧ kindAt L i ≤ 14 ∧ isB L i (kwTab.getD (kindAt L i) []) = true) := by
  unfold kindAt
  cases h : (List.range 15).find? (fun k => decide (2 ≤ k) && isB L i (kwTab.getD k [])) with
  | none => exact .inl rfl
  | some k =>
    have h1 := List.find?_some h
    have h2 := List.mem_of_find?_eq_some h
    simp only [Bool.and_eq_true, decide_eq_true_eq] at h1
    rw [List.mem_range] at h2
    exact .inr ⟨h1.1, by show k ≤ 14; omega, h1.2⟩
theorem kind_range (L : List Tok) (i : Nat) : 1 ≤ kindAt L i ∧ kindAt L i ≤ 14 := by
  rcases kind_spec L i with h | ⟨h1, h2, _⟩ <;> omega
theorem begin_le {L : List Tok} {i : Nat} (hi : i ≤ L.length) : (if kindAt L i = 1 then i else i + 1) ≤ L.length := by
  rcases kind_spec L i with h | ⟨h1, h2, h3⟩
  · rw [if_pos h]; exact hi
  · rw [if_neg (by omega)]; exact isB_lt h3
end Go.Proofs.YtpeohfgadnfnpaaGreatDoor
/-
  DERIVED. Layer 4: what is read of tokens ends, is whole, and is right; nothing of the program in it.
-/
namespace Go.Proofs.YtpeohfgadnfnpaaGreatDoor
open Go

theorem plain_ahead1 (L : List Tok) (pl : Int) (i : Nat) : Ahead L i (plainP L 1 pl i) := by
  unfold plainP
  rw [if_pos rfl]
  exact bind_ahead (name_ahead L i) fun r j _ => (bind_ahead (must_ahead L j _) fun _ j _ => (bind_ahead (expr_ahead L j) fun e j he => ok_ahead _ ((expr_ahead L _).to he)).le).le
/-- The statement's first part, from its place on. -/
def plainAt (L : List Tok) (i : Nat) : RS Stm := plainP L (kindAt L i) (placeV L i) (if kindAt L i = 1 then i else i + 1)
theorem plainAt_ahead (L : List Tok) (i : Nat) : Ahead L i (plainAt L i) := by
  unfold plainAt
  rcases kind_spec L i with h | ⟨h1, h2, h3⟩
  · rw [h, if_pos rfl]; exact plain_ahead1 L _ i
  · rw [if_neg (by omega)]
    have := plain_ahead L (kindAt L i) (placeV L i) (i + 1) (isB_lt h3)
    cases hp : plainP L (kindAt L i) (placeV L i) (i + 1) with
    | ok a to => rw [hp] at this; exact ⟨by have := this.1; omega, this.2⟩
    | bad e p => rw [hp] at this; exact this
def RowAhead (L : List Tok) (row : Rows4) : Prop := ∀ i d l r, i ≤ L.length → row i d l = some r → AheadE L i r
theorem block_ahead {L : List Tok} {row : Rows4} (hr : RowAhead L row) {i d l : Nat} {r : RS Bk} (h : blockW row L i d l = some r) : Ahead L i r := by
  unfold blockW at h
  split at h
  · simp at h; subst h; exact bad_ahead (by omega)
  · rcases RS.obind_some h with ⟨_, j, h1, h2⟩ | ⟨e, p, h1, rfl⟩
    · have a1 := must_ahead L i [123]
      simp at h1; rw [h1] at a1
      rcases RS.obind_some h2 with ⟨b, j2, h3, h4⟩ | ⟨e, p, h3, rfl⟩
      · have a2 := hr _ _ _ _ a1.2 h3
        rcases RS.obind_some h4 with ⟨_, j3, h5, h6⟩ | ⟨e, p, h5, rfl⟩
        · have a3 := must_ahead L j2 [125]
          simp at h5; rw [h5] at a3
          simp at h6; subst h6
          have b1 := a1.1; have b2 := a2.1; have b3 := a3.1
          exact ⟨by omega, a3.2⟩
        · have a3 := must_ahead L j2 [125]
          simp at h5; rw [h5] at a3; exact a3
      · exact hr _ _ _ _ a1.2 h3
    · have a1 := must_ahead L i [123]
      simp at h1; rw [h1] at a1; exact a1
theorem else_ahead {L : List Tok} {row : Rows4} (hr : RowAhead L row) {k i d l : Nat} {r : RS Bk} (hi : i ≤ L.length) (h : elseW4 row L k i d l = some r) : AheadE L i r := by
  unfold elseW4 at h
  split at h
  · have := block_ahead hr h
    cases r with
    | ok b to => exact ⟨by have := this.1; omega, this.2⟩
    | bad e p => exact this
  · simp at h; subst h; exact ⟨Nat.le_refl _, hi⟩
theorem one_ahead {L : List Tok} {row : Rows4} (hr : RowAhead L row) {i d l : Nat} {r : RS One} (h : oneW row L i d l = some r) : Ahead L i r := by
  unfold oneW at h
  split at h
  · simp at h; subst h; exact bad_ahead (by omega)
  · have a1 := plainAt_ahead L i
    unfold plainAt at a1
    rcases RS.obind_some h with ⟨s, j, h1, h2⟩ | ⟨e, p, h1, rfl⟩
    · simp at h1; rw [h1] at a1
      have b1 := a1.1
      split at h2
      · rcases RS.obind_some h2 with ⟨_, j2, h3, h4⟩ | ⟨e, p, h3, rfl⟩
        · have a2 := must_ahead L j [59]
          simp at h3; rw [h3] at a2
          simp at h4; subst h4
          exact ⟨by have := a2.1; omega, a2.2⟩
        · have a2 := must_ahead L j [59]
          simp at h3; rw [h3] at a2; exact a2
      · rcases RS.obind_some h2 with ⟨b, j2, h3, h4⟩ | ⟨e, p, h3, rfl⟩
        · have a2 := block_ahead hr h3
          rcases RS.obind_some h4 with ⟨e, j3, h5, h6⟩ | ⟨e, p, h5, rfl⟩
          · have a3 := else_ahead hr a2.2 h5
            simp at h6; subst h6
            have b2 := a2.1; have b3 := a3.1
            exact ⟨by omega, a3.2⟩
          · exact else_ahead hr a2.2 h5
        · exact block_ahead hr h3
    · simp at h1; rw [h1] at a1; exact a1
theorem rowF_succ (L : List Tok) (f i d l : Nat) : rowF L (f + 1) i d l = if isB L i [125] = true then some (.ok .nil i)
    else RS.obind (oneW (rowF L f) L i d l) fun o j => RS.obind (rowF L f j d l) fun r j => some (.ok (.cons o.s o.b o.e r) j) := rfl
theorem row_ahead (L : List Tok) : ∀ f, RowAhead L (rowF L f) := by
  intro f
  induction f with
  | zero => intro i d l r _ h; simp [rowF] at h
  | succ f ih =>
    intro i d l r hi h
    rw [rowF_succ] at h
    split at h
    · simp at h; subst h; exact ⟨Nat.le_refl _, hi⟩
    · rcases RS.obind_some h with ⟨o, j, h1, h2⟩ | ⟨e, p, h1, rfl⟩
      · have a1 := one_ahead ih h1
        rcases RS.obind_some h2 with ⟨t, j2, h3, h4⟩ | ⟨e, p, h3, rfl⟩
        · have a2 := ih _ _ _ _ a1.2 h3
          simp at h4; subst h4
          have b1 := a1.1; have b2 := a2.1
          exact ⟨by omega, a2.2⟩
        · have a2 : AheadE L j (.bad e p : RS Bk) := ih _ _ _ _ a1.2 h3
          exact (show e ≠ 0 from a2)
      · have a1 : Ahead L i (.bad e p : RS One) := one_ahead ih h1
        exact (show e ≠ 0 from a1)

/-! ### There is always enough to go on with. -/
def RowMore (row row' : Rows4) : Prop := ∀ i d l r, row i d l = some r → row' i d l = some r
theorem obind_more {α β : Type} {o o' : Option (RS α)} {k k' : α → Nat → Option (RS β)} {r : RS β} (ho : ∀ r, o = some r → o' = some r) (hk : ∀ a j, o = some (.ok a j) → ∀ r, k a j = some r → k' a j = some r) (h : RS.obind o k = some r) : RS.obind o' k' = some r := by
  rcases RS.obind_some h with ⟨a, to, h1, h2⟩ | ⟨e, p, h1, rfl⟩
  · rw [ho _ h1]; exact hk a to h1 _ h2
  · rw [ho _ h1]; rfl
theorem block_more {L : List Tok} {row row' : Rows4} (hm : RowMore row row') {i d l : Nat} {r : RS Bk} (h : blockW row L i d l = some r) : blockW row' L i d l = some r := by
  unfold blockW at h ⊢
  split at h
  · rename_i hc; rw [if_pos hc]; exact h
  · rename_i hc; rw [if_neg hc]
    exact obind_more (fun _ h => h) (fun _ j _ _ h => obind_more (fun _ h => hm _ _ _ _ h) (fun _ _ _ _ h => h) h) h
theorem else_more {L : List Tok} {row row' : Rows4} (hm : RowMore row row') {k i d l : Nat} {r : RS Bk} (h : elseW4 row L k i d l = some r) : elseW4 row' L k i d l = some r := by
  unfold elseW4 at h ⊢
  split at h
  · rename_i hc; rw [if_pos hc]; exact block_more hm h
  · rename_i hc; rw [if_neg hc]; exact h
theorem one_more {L : List Tok} {row row' : Rows4} (hm : RowMore row row') {i d l : Nat} {r : RS One} (h : oneW row L i d l = some r) : oneW row' L i d l = some r := by
  unfold oneW at h ⊢
  split at h
  · rename_i hc; rw [if_pos hc]; exact h
  · rename_i hc; rw [if_neg hc]
    refine obind_more (fun _ h => h) (fun s j _ r h => ?_) h
    split at h
    · rename_i hb; rw [if_pos hb]; exact h
    · rename_i hb; rw [if_neg hb]
      exact obind_more (fun _ h => block_more hm h) (fun _ j _ _ h => obind_more (fun _ h => else_more hm h) (fun _ _ _ _ h => h) h) h
theorem row_more_one (L : List Tok) : ∀ f, RowMore (rowF L f) (rowF L (f + 1)) := by
  intro f
  induction f with
  | zero => intro i d l r h; simp [rowF] at h
  | succ f ih =>
    intro i d l r h
    rw [rowF_succ] at h ⊢
    split at h
    · rename_i hc; rw [if_pos hc]; exact h
    · rename_i hc; rw [if_neg hc]
      exact obind_more (fun _ h => one_more ih h) (fun _ j _ _ h => obind_more (fun _ h => ih _ _ _ _ h) (fun _ _ _ _ h => h) h) h
theorem row_more (L : List Tok) {f g : Nat} (hfg : f ≤ g) : RowMore (rowF L f) (rowF L g) := by
  induction g with
  | zero =>
    obtain rfl : f = 0 := (by omega)
    exact fun _ _ _ _ h => h
  | succ g ih =>
    by_cases e : f = g + 1
    · subst e; exact fun _ _ _ _ h => h
    · exact fun i d l r h => row_more_one L g _ _ _ _ (ih (by omega) _ _ _ _ h)
theorem obind_total {α β : Type} {o : Option (RS α)} {k : α → Nat → Option (RS β)} (ho : ∃ r, o = some r) (hk : ∀ a j, o = some (.ok a j) → ∃ r, k a j = some r) : ∃ r, RS.obind o k = some r := by
  obtain ⟨r, rfl⟩ := ho
  cases r with
  | ok a to => exact hk a to rfl
  | bad e p => exact ⟨_, rfl⟩
def RowTotal (L : List Tok) (row : Rows4) (i : Nat) : Prop := ∀ j d l, i < j → j ≤ L.length → ∃ r, row j d l = some r
theorem block_total {L : List Tok} {row : Rows4} {i : Nat} (ht : RowTotal L row i) {j d l : Nat} (hij : i ≤ j) : ∃ r, blockW row L j d l = some r := by
  unfold blockW
  split
  · exact ⟨_, rfl⟩
  · refine obind_total ⟨_, rfl⟩ fun _ j2 h => ?_
    have a := must_ahead L j [123]
    simp at h; rw [h] at a
    refine obind_total (ht _ _ _ (by have := a.1; omega) a.2) fun b j3 _ => obind_total ⟨_, rfl⟩ fun _ j4 _ => ⟨_, rfl⟩
theorem one_total {L : List Tok} {row : Rows4} (hr : RowAhead L row) {i : Nat} (ht : RowTotal L row i) {d l : Nat} : ∃ r, oneW row L i d l = some r := by
  unfold oneW
  split
  · exact ⟨_, rfl⟩
  · refine obind_total ⟨_, rfl⟩ fun s j h => ?_
    have a := plainAt_ahead L i
    unfold plainAt at a
    simp at h; rw [h] at a
    have b := a.1
    split
    · exact obind_total ⟨_, rfl⟩ fun _ j2 _ => ⟨_, rfl⟩
    · refine obind_total (block_total ht (by omega)) fun b j2 h2 => obind_total ?_ fun e j3 _ => ⟨_, rfl⟩
      have a2 := block_ahead hr h2
      unfold elseW4
      split
      · exact block_total ht (by have := a2.1; omega)
      · exact ⟨_, rfl⟩
theorem row_total (L : List Tok) : ∀ f i d l, i ≤ L.length → L.length - i + 1 ≤ f → ∃ r, rowF L f i d l = some r := by
  intro f
  induction f with
  | zero => intro i d l _ h; omega
  | succ f ih =>
    intro i d l hi h
    rw [rowF_succ]
    split
    · exact ⟨_, rfl⟩
    · have ht : RowTotal L (rowF L f) i := fun j d l h1 h2 => ih j d l h2 (by omega)
      refine obind_total (one_total (row_ahead L f) ht) fun o j h1 => ?_
      have a := one_ahead (row_ahead L f) h1
      exact obind_total (ht _ _ _ a.1 a.2) fun t j2 _ => ⟨_, rfl⟩

/-! ### The whole. -/
def blockR (L : List Tok) (i d l : Nat) : RS Bk := (blockW (rowF L (L.length + 1)) L i d l).getD (.bad 0 0)
theorem blockR_some (L : List Tok) (i d l : Nat) : blockW (rowF L (L.length + 1)) L i d l = some (blockR L i d l) := by
  have : ∃ r, blockW (rowF L (L.length + 1)) L i d l = some r := by
    unfold blockW
    split
    · exact ⟨_, rfl⟩
    · refine obind_total ⟨_, rfl⟩ fun _ j2 h => ?_
      have a := must_ahead L i [123]
      simp at h; rw [h] at a
      exact obind_total (row_total L _ _ _ _ a.2 (by omega)) fun b j3 _ => obind_total ⟨_, rfl⟩ fun _ j4 _ => ⟨_, rfl⟩
  obtain ⟨r, hr⟩ := this
  unfold blockR; rw [hr]; rfl
theorem blockR_of {L : List Tok} {f i d l : Nat} {r : RS Bk} (h : blockW (rowF L f) L i d l = some r) : blockR L i d l = r := by
  have h1 := block_more (row_more L (Nat.le_max_left f (L.length + 1))) h
  have h2 := block_more (row_more L (Nat.le_max_right f (L.length + 1))) (blockR_some L i d l)
  rw [h1] at h2; exact (Option.some.inj h2).symm
structure ParsedS where
  stmts : List Stm
  to : Int
  err : Int
  pl : Int
def stmtR (L : List Tok) (i : Int) : RS Bk → ParsedS
  | .bad e p => ⟨[], 0, e, p⟩
  | .ok b to => if 40 < b.count then ⟨[], 0, 2, placeV L i⟩ else ⟨b.flat, to, 0, 0⟩
def stmtV (L : List Tok) (i : Int) : ParsedS := if i < 0 then ⟨[], 0, 1, 0⟩ else stmtR L i (blockR L i.toNat 0 0)

/-! ### What is read is right. -/
def TF (n : Nat) (L : List Tok) : Prop := ∀ t ∈ L, t.pl + t.text.length ≤ n ∧ 0 ≤ t.n ∧ t.n ≤ 4294967296
theorem bind_ok_inv {α β : Type} {r : RS α} {k : α → Nat → RS β} {b : β} {j : Nat} (h : r.bind k = .ok b j) : ∃ a i, r = .ok a i ∧ k a i = .ok b j := by
  cases r with
  | ok a i => exact ⟨a, i, rfl, h⟩
  | bad e p => cases h
theorem name_ok {L : List Tok} {i j : Nat} {s : List UInt8} (h : nameP L i = .ok s j) : nameB s = true := by
  unfold nameP at h
  split at h
  · rename_i hn
    simp at h; rw [← h.1]; exact (nameAt_lt hn).2
  · unfold badR at h; cases h
theorem expr_ok {n : Nat} {L : List Tok} {i j : Nat} {l : List Nod} (hn : n ≤ 4000) (hL : TF n L) (h : exprP L i = .ok l j) : rightL l = true := by
  unfold exprP at h
  rcases expr_cases L i with ⟨h1, _⟩ | ⟨x, h1, h2, h3, h4, to, h5, _⟩
  · rw [if_neg h1] at h; cases h
  · rw [h5] at h
    simp at h
    rw [← h.1, right_flat h1]
    have hall : x.flat.all nodOK = true := List.all_eq_true.2 fun a ha => nod_of hn hL (h4 a ha)
    rw [hall]; simp; omega
theorem times_ok {L : List Tok} {i j : Nat} {n : Int} (h : timesP L i = .ok n j) : 1 ≤ n ∧ n ≤ 8 := by
  unfold timesP at h
  split at h
  · split at h
    · split at h
      · rename_i hc; simp at h; rw [← h.1]; exact hc
      · unfold badR at h; cases h
    · unfold badR at h; cases h
  · unfold badR at h; cases h
theorem has_table : ∀ k : Fin 15, 1 ≤ k.1 → (hasC (k.1 : Nat) 114 = decide (k.1 = 1 ∨ k.1 = 2 ∨ k.1 = 4)) ∧ (hasC (k.1 : Nat) 110 = decide (k.1 = 2 ∨ k.1 = 3 ∨ k.1 = 4 ∨ k.1 = 5 ∨ k.1 = 6 ∨ k.1 = 9 ∨ k.1 = 10)) ∧ (hasC (k.1 : Nat) 101 = decide (k.1 = 1 ∨ k.1 = 3 ∨ k.1 = 4 ∨ k.1 = 11 ∨ k.1 = 14)) ∧ (hasC (k.1 : Nat) 102 = decide (k.1 = 4)) ∧ (hasC (k.1 : Nat) 107 = decide (k.1 = 12)) := by decide
end Go.Proofs.YtpeohfgadnfnpaaGreatDoor
