/-
  DERIVED. Texts of the walk, packed: StFine, StGood.
-/
import Derived.Test.YtpeohfgadnfnpaaGreatDoorQ17
/-
  DERIVED. Layer 4: what is read of tokens ends, is whole, and is right; nothing of the program in it.
-/
namespace Go.Proofs.YtpeohfgadnfnpaaGreatDoor
open Go

theorem plain_ahead1 (L : List Tok) (pl : Int) (i : Nat) : Ahead L i (plainP L 1 pl i) := by
  unfold plainP
  rw [if_pos rfl]
  exact bind_ahead (name_ahead L i) fun r j _ => (bind_ahead (must_ahead L j _) fun _ j _ => (bind_ahead (expr_ahead L j) fun e j he => ok_ahead _ ((expr_ahead L _).to he)).le).le
/-- The statement's first part, from its place on. -/
def plainAt (L : List Tok) (i : Nat) : RS Stm := plainP L (kindAt L i) (placeV L i) (if kindAt L i = 1 then i else i + 1)
theorem plainAt_ahead (L : List Tok) (i : Nat) : Ahead L i (plainAt L i) := by
  unfold plainAt
  rcases kind_spec L i with h | ⟨h1, h2, h3⟩
  · rw [h, if_pos rfl]; exact plain_ahead1 L _ i
  · rw [if_neg (by omega)]
    have := plain_ahead L (kindAt L i) (placeV L i) (i + 1) (isB_lt h3)
    cases hp : plainP L (kindAt L i) (placeV L i) (i + 1) with
    | ok a to => rw [hp] at this; exact ⟨by have := this.1; omega, this.2⟩
    | bad e p => rw [hp] at this; exact this
def RowAhead (L : List Tok) (row : Rows4) : Prop := ∀ i d l r, i ≤ L.length → row i d l = some r → AheadE L i r
theorem block_ahead {L : List Tok} {row : Rows4} (hr : RowAhead L row) {i d l : Nat} {r : RS Bk} (h : blockW row L i d l = some r) : Ahead L i r := by
  unfold blockW at h
  split at h
  · simp at h; subst h; exact bad_ahead (by omega)
  · rcases RS.obind_some h with ⟨_, j, h1, h2⟩ | ⟨e, p, h1, rfl⟩
    · have a1 := must_ahead L i [123]
      simp at h1; rw [h1] at a1
      rcases RS.obind_some h2 with ⟨b, j2, h3, h4⟩ | ⟨e, p, h3, rfl⟩
      · have a2 := hr _ _ _ _ a1.2 h3
        rcases RS.obind_some h4 with ⟨_, j3, h5, h6⟩ | ⟨e, p, h5, rfl⟩
        · have a3 := must_ahead L j2 [125]
          simp at h5; rw [h5] at a3
          simp at h6; subst h6
          have b1 := a1.1; have b2 := a2.1; have b3 := a3.1
          exact ⟨by omega, a3.2⟩
        · have a3 := must_ahead L j2 [125]
          simp at h5; rw [h5] at a3; exact a3
      · exact hr _ _ _ _ a1.2 h3
    · have a1 := must_ahead L i [123]
      simp at h1; rw [h1] at a1; exact a1
theorem else_ahead {L : List Tok} {row : Rows4} (hr : RowAhead L row) {k i d l : Nat} {r : RS Bk} (hi : i ≤ L.length) (h : elseW4 row L k i d l = some r) : AheadE L i r := by
  unfold elseW4 at h
  split at h
  · have := block_ahead hr h
    cases r with
    | ok b to => exact ⟨by have := this.1; omega, this.2⟩
    | bad e p => exact this
  · simp at h; subst h; exact ⟨Nat.le_refl _, hi⟩
theorem one_ahead {L : List Tok} {row : Rows4} (hr : RowAhead L row) {i d l : Nat} {r : RS One} (h : oneW row L i d l = some r) : Ahead L i r := by
  unfold oneW at h
  split at h
  · simp at h; subst h; exact bad_ahead (by omega)
  · have a1 := plainAt_ahead L i
    unfold plainAt at a1
    rcases RS.obind_some h with ⟨s, j, h1, h2⟩ | ⟨e, p, h1, rfl⟩
    · simp at h1; rw [h1] at a1
      have b1 := a1.1
      split at h2
      · rcases RS.obind_some h2 with ⟨_, j2, h3, h4⟩ | ⟨e, p, h3, rfl⟩
        · have a2 := must_ahead L j [59]
          simp at h3; rw [h3] at a2
          simp at h4; subst h4
          exact ⟨by have := a2.1; omega, a2.2⟩
        · have a2 := must_ahead L j [59]
          simp at h3; rw [h3] at a2; exact a2
      · rcases RS.obind_some h2 with ⟨b, j2, h3, h4⟩ | ⟨e, p, h3, rfl⟩
        · have a2 := block_ahead hr h3
          rcases RS.obind_some h4 with ⟨e, j3, h5, h6⟩ | ⟨e, p, h5, rfl⟩
          · have a3 := else_ahead hr a2.2 h5
            simp at h6; subst h6
            have b2 := a2.1; have b3 := a3.1
            exact ⟨by omega, a3.2⟩
          · exact else_ahead hr a2.2 h5
        · exact block_ahead hr h3
    · simp at h1; rw [h1] at a1; exact a1
theorem rowF_succ (L : List Tok) (f i d l : Nat) : rowF L (f + 1) i d l = if isB L i [125] = true then some (.ok .nil i)
    else RS.obind (oneW (rowF L f) L i d l) fun o j => RS.obind (rowF L f j d l) fun r j => some (.ok (.cons o.s o.b o.e r) j) := rfl
theorem row_ahead (L : List Tok) : ∀ f, RowAhead L (rowF L f) := by
  intro f
  induction f with
  | zero => intro i d l r _ h; simp [rowF] at h
  | succ f ih =>
    intro i d l r hi h
    rw [rowF_succ] at h
    split at h
    · simp at h; subst h; exact ⟨Nat.le_refl _, hi⟩
    · rcases RS.obind_some h with ⟨o, j, h1, h2⟩ | ⟨e, p, h1, rfl⟩
      · have a1 := one_ahead ih h1
        rcases RS.obind_some h2 with ⟨t, j2, h3, h4⟩ | ⟨e, p, h3, rfl⟩
        · have a2 := ih _ _ _ _ a1.2 h3
          simp at h4; subst h4
          have b1 := a1.1; have b2 := a2.1
          exact ⟨by omega, a2.2⟩
        · have a2 : AheadE L j (.bad e p : RS Bk) := ih _ _ _ _ a1.2 h3
          exact (show e ≠ 0 from a2)
      · have a1 : Ahead L i (.bad e p : RS One) := one_ahead ih h1
        exact (show e ≠ 0 from a1)

/-! ### There is always enough to go on with. -/
def RowMore (row row' : Rows4) : Prop := ∀ i d l r, row i d l = some r → row' i d l = some r
theorem obind_more {α β : Type} {o o' : Option (RS α)} {k k' : α → Nat → Option (RS β)} {r : RS β} (ho : ∀ r, o = some r → o' = some r) (hk : ∀ a j, o = some (.ok a j) → ∀ r, k a j = some r → k' a j = some r) (h : RS.obind o k = some r) : RS.obind o' k' = some r := by
  rcases RS.obind_some h with ⟨a, to, h1, h2⟩ | ⟨e, p, h1, rfl⟩
  · rw [ho _ h1]; exact hk a to h1 _ h2
  · rw [ho _ h1]; rfl
theorem block_more {L : List Tok} {row row' : Rows4} (hm : RowMore row row') {i d l : Nat} {r : RS Bk} (h : blockW row L i d l = some r) : blockW row' L i d l = some r := by
  unfold blockW at h ⊢
  split at h
  · rename_i hc; rw [if_pos hc]; exact h
  · rename_i hc; rw [if_neg hc]
    exact obind_more (fun _ h => h) (fun _ j _ _ h => obind_more (fun _ h => hm _ _ _ _ h) (fun _ _ _ _ h => h) h) h
theorem else_more {L : List Tok} {row row' : Rows4} (hm : RowMore row row') {k i d l : Nat} {r : RS Bk} (h : elseW4 row L k i d l = some r) : elseW4 row' L k i d l = some r := by
  unfold elseW4 at h ⊢
  split at h
  · rename_i hc; rw [if_pos hc]; exact block_more hm h
  · rename_i hc; rw [if_neg hc]; exact h
theorem one_more {L : List Tok} {row row' : Rows4} (hm : RowMore row row') {i d l : Nat} {r : RS One} (h : oneW row L i d l = some r) : oneW row' L i d l = some r := by
  unfold oneW at h ⊢
  split at h
  · rename_i hc; rw [if_pos hc]; exact h
  · rename_i hc; rw [if_neg hc]
    refine obind_more (fun _ h => h) (fun s j _ r h => ?_) h
    split at h
    · rename_i hb; rw [if_pos hb]; exact h
    · rename_i hb; rw [if_neg hb]
      exact obind_more (fun _ h => block_more hm h) (fun _ j _ _ h => obind_more (fun _ h => else_more hm h) (fun _ _ _ _ h => h) h) h
theorem row_more_one (L : List Tok) : ∀ f, RowMore (rowF L f) (rowF L (f + 1)) := by
  intro f
  induction f with
  | zero => intro i d l r h; simp [rowF] at h
  | succ f ih =>
    intro i d l r h
    rw [rowF_succ] at h ⊢
    split at h
    · rename_i hc; rw [if_pos hc]; exact h
    · rename_i hc; rw [if_neg hc]
      exact obind_more (fun _ h => one_more ih h) (fun _ j _ _ h => obind_more (fun _ h => ih _ _ _ _ h) (fun _ _ _ _ h => h) h) h
theorem row_more (L : List Tok) {f g : Nat} (hfg : f ≤ g) : RowMore (rowF L f) (rowF L g) := by
  induction g with
  | zero =>
    obtain rfl : f = 0 := (by omega)
    exact fun _ _ _ _ h => h
  | succ g ih =>
    by_cases e : f = g + 1
    · subst e; exact fun _ _ _ _ h => h
    · exact fun i d l r h => row_more_one L g _ _ _ _ (ih (by omega) _ _ _ _ h)
theorem obind_total {α β : Type} {o : Option (RS α)} {k : α → Nat → Option (RS β)} (ho : ∃ r, o = some r) (hk : ∀ a j, o = some (.ok a j) → ∃ r, k a j = some r) : ∃ r, RS.obind o k = some r := by
  obtain ⟨r, rfl⟩ := ho
  cases r with
  | ok a to => exact hk a to rfl
  | bad e p => exact ⟨_, rfl⟩
def RowTotal (L : List Tok) (row : Rows4) (i : Nat) : Prop := ∀ j d l, i < j → j ≤ L.length → ∃ r, row j d l = some r
theorem block_total {L : List Tok} {row : Rows4} {i : Nat} (ht : RowTotal L row i) {j d l : Nat} (hij : i ≤ j) : ∃ r, blockW row L j d l = some r := by
  unfold blockW
  split
  · exact ⟨_, rfl⟩
  · refine obind_total ⟨_, rfl⟩ fun _ j2 h => ?_
    have a := must_ahead L j [123]
    simp at h; rw [h] at a
    refine obind_total (ht _ _ _ (by have := a.1; omega) a.2) fun b j3 _ => obind_total ⟨_, rfl⟩ fun _ j4 _ => ⟨_, rfl⟩
theorem one_total {L : List Tok} {row : Rows4} (hr : RowAhead L row) {i : Nat} (ht : RowTotal L row i) {d l : Nat} : ∃ r, oneW row L i d l = some r := by
  unfold oneW
  split
  · exact ⟨_, rfl⟩
  · refine obind_total ⟨_, rfl⟩ fun s j h => ?_
    have a := plainAt_ahead L i
    unfold plainAt at a
    simp at h; rw [h] at a
    have b := a.1
    split
    · exact obind_total ⟨_, rfl⟩ fun _ j2 _ => ⟨_, rfl⟩
    · refine obind_total (block_total ht (by omega)) fun b j2 h2 => obind_total ?_ fun e j3 _ => ⟨_, rfl⟩
      have a2 := block_ahead hr h2
      unfold elseW4
      split
      · exact block_total ht (by have := a2.1; omega)
      · exact ⟨_, rfl⟩
theorem row_total (L : List Tok) : ∀ f i d l, i ≤ L.length → L.length - i + 1 ≤ f → ∃ r, rowF L f i d l = some r := by
  intro f
  induction f with
  | zero => intro i d l _ h; omega
  | succ f ih =>
    intro i d l hi h
    rw [rowF_succ]
    split
    · exact ⟨_, rfl⟩
    · have ht : RowTotal L (rowF L f) i := fun j d l h1 h2 => ih j d l h2 (by omega)
      refine obind_total (one_total (row_ahead L f) ht) fun o j h1 => ?_
      have a := one_ahead (row_ahead L f) h1
      exact obind_total (ht _ _ _ a.1 a.2) fun t j2 _ => ⟨_, rfl⟩

/-! ### The whole. -/
def blockR (L : List Tok) (i d l : Nat) : RS Bk := (blockW (rowF L (L.length + 1)) L i d l).getD (.bad 0 0)
theorem blockR_some (L : List Tok) (i d l : Nat) : blockW (rowF L (L.length + 1)) L i d l = some (blockR L i d l) := by
  have : ∃ r, blockW (rowF L (L.length + 1)) L i d l = some r := by
    unfold blockW
    split
    · exact ⟨_, rfl⟩
    · refine obind_total ⟨_, rfl⟩ fun _ j2 h => ?_
      have a := must_ahead L i [123]
      simp at h; rw [h] at a
      exact obind_total (row_total L _ _ _ _ a.2 (by omega)) fun b j3 _ => obind_total ⟨_, rfl⟩ fun _ j4 _ => ⟨_, rfl⟩
  obtain ⟨r, hr⟩ := this
  unfold blockR; rw [hr]; rfl
theorem blockR_of {L : List Tok} {f i d l : Nat} {r : RS Bk} (h : blockW (rowF L f) L i d l = some r) : blockR L i d l = r := by
  have h1 := block_more (row_more L (Nat.le_max_left f (L.length + 1))) h
  have h2 := block_more (row_more L (Nat.le_max_right f (L.length + 1))) (blockR_some L i d l)
  rw [h1] at h2; exact (Option.some.inj h2).symm
structure ParsedS where
  stmts : List Stm
  to : Int
  err : Int
  pl : Int
def stmtR (L : List Tok) (i : Int) : RS Bk → ParsedS
  | .bad e p => ⟨[], 0, e, p⟩
  | .ok b to => if 40 < b.count then ⟨[], 0, 2, placeV L i⟩ else ⟨b.flat, to, 0, 0⟩
def stmtV (L : List Tok) (i : Int) : ParsedS := if i < 0 then ⟨[], 0, 1, 0⟩ else stmtR L i (blockR L i.toNat 0 0)

/-! ### What is read is right. -/
def TF (n : Nat) (L : List Tok) : Prop := ∀ t ∈ L, t.pl + t.text.length ≤ n ∧ 0 ≤ t.n ∧ t.n ≤ 4294967296
theorem bind_ok_inv {α β : Type} {r : RS α} {k : α → Nat → RS β} {b : β} {j : Nat} (h : r.bind k = .ok b j) : ∃ a i, r = .ok a i ∧ k a i = .ok b j := by
  cases r with
  | ok a i => exact ⟨a, i, rfl, h⟩
  | bad e p => cases h
theorem name_ok {L : List Tok} {i j : Nat} {s : List UInt8} (h : nameP L i = .ok s j) : nameB s = true := by
  unfold nameP at h
  split at h
  · rename_i hn
    simp at h; rw [← h.1]; exact (nameAt_lt hn).2
  · unfold badR at h; cases h
theorem expr_ok {n : Nat} {L : List Tok} {i j : Nat} {l : List Nod} (hn : n ≤ 4000) (hL : TF n L) (h : exprP L i = .ok l j) : rightL l = true := by
  unfold exprP at h
  rcases expr_cases L i with ⟨h1, _⟩ | ⟨x, h1, h2, h3, h4, to, h5, _⟩
  · rw [if_neg h1] at h; cases h
  · rw [h5] at h
    simp at h
    rw [← h.1, right_flat h1]
    have hall : x.flat.all nodOK = true := List.all_eq_true.2 fun a ha => nod_of hn hL (h4 a ha)
    rw [hall]; simp; omega
theorem times_ok {L : List Tok} {i j : Nat} {n : Int} (h : timesP L i = .ok n j) : 1 ≤ n ∧ n ≤ 8 := by
  unfold timesP at h
  split at h
  · split at h
    · split at h
      · rename_i hc; simp at h; rw [← h.1]; exact hc
      · unfold badR at h; cases h
    · unfold badR at h; cases h
  · unfold badR at h; cases h
theorem has_table : ∀ k : Fin 15, 1 ≤ k.1 → (hasC (k.1 : Nat) 114 = decide (k.1 = 1 ∨ k.1 = 2 ∨ k.1 = 4)) ∧ (hasC (k.1 : Nat) 110 = decide (k.1 = 2 ∨ k.1 = 3 ∨ k.1 = 4 ∨ k.1 = 5 ∨ k.1 = 6 ∨ k.1 = 9 ∨ k.1 = 10)) ∧ (hasC (k.1 : Nat) 101 = decide (k.1 = 1 ∨ k.1 = 3 ∨ k.1 = 4 ∨ k.1 = 11 ∨ k.1 = 14)) ∧ (hasC (k.1 : Nat) 102 = decide (k.1 = 4)) ∧ (hasC (k.1 : Nat) 107 = decide (k.1 = 12)) := by decide
end Go.Proofs.YtpeohfgadnfnpaaGreatDoor
/-
  DERIVED. Layer 4: what is read of a text's tokens is right; nothing of the program in it.
-/
namespace Go.Proofs.YtpeohfgadnfnpaaGreatDoor
open Go

/-- What fitS asks, one by one. -/
theorem fit_of {x : Stm} {k : Nat} (hk : x.kind = k) (h1 : 1 ≤ k) (h2 : k ≤ 14) (hp : 0 ≤ x.pl ∧ x.pl ≤ 4000)
    (hr : (if k = 1 ∨ k = 2 ∨ k = 4 then nameB x.reg else x.reg.isEmpty) = true)
    (hn : (if k = 2 ∨ k = 3 ∨ k = 4 ∨ k = 5 ∨ k = 6 ∨ k = 9 ∨ k = 10 then nameB x.name else x.name.isEmpty) = true)
    (he : (if k = 1 ∨ k = 3 ∨ k = 4 ∨ k = 11 ∨ k = 14 then rightL x.e else x.e.isEmpty) = true)
    (hf : (if k = 4 then rightL x.f else x.f.isEmpty) = true)
    (ht : (if k = 12 then decide (1 ≤ x.n) && decide (x.n ≤ 8) else decide (x.n = 0)) = true) : fitS x = true := by
  obtain ⟨t1, t2, t3, t4, t5⟩ := has_table ⟨k, by omega⟩ h1
  simp only at t1 t2 t3 t4 t5
  unfold fitS
  rw [hk, t1, t2, t3, t4, t5]
  simp only [decide_eq_true_eq]
  rw [hr, hn, he, hf, ht]
  simp; omega
theorem fit_inv {x : Stm} {k : Nat} (hk : x.kind = k) (h : fitS x = true) : 1 ≤ k ∧ k ≤ 14 ∧ (0 ≤ x.pl ∧ x.pl ≤ 4000) ∧
    (if k = 1 ∨ k = 2 ∨ k = 4 then nameB x.reg else x.reg.isEmpty) = true ∧
    (if k = 2 ∨ k = 3 ∨ k = 4 ∨ k = 5 ∨ k = 6 ∨ k = 9 ∨ k = 10 then nameB x.name else x.name.isEmpty) = true ∧
    (if k = 1 ∨ k = 3 ∨ k = 4 ∨ k = 11 ∨ k = 14 then rightL x.e else x.e.isEmpty) = true ∧
    (if k = 4 then rightL x.f else x.f.isEmpty) = true ∧
    (if k = 12 then decide (1 ≤ x.n) && decide (x.n ≤ 8) else decide (x.n = 0)) = true := by
  unfold fitS at h
  rw [hk] at h
  simp only [Bool.and_eq_true, decide_eq_true_eq] at h
  obtain ⟨⟨⟨⟨⟨⟨⟨⟨h1, h2⟩, h3⟩, h4⟩, h5⟩, h6⟩, h7⟩, h8⟩, h9⟩ := h
  obtain ⟨t1, t2, t3, t4, t5⟩ := has_table ⟨k, by omega⟩ (by show 1 ≤ k; omega)
  simp only at t1 t2 t3 t4 t5
  rw [t1] at h5; rw [t2] at h6; rw [t3] at h7; rw [t4] at h8; rw [t5] at h9
  simp only [decide_eq_true_eq] at h5 h6 h7 h8 h9
  refine ⟨by omega, by omega, ⟨h3, h4⟩, h5, h6, h7, h8, ?_⟩
  split at h9
  · rename_i hc; rw [if_pos hc]; simpa using h9
  · rename_i hc; rw [if_neg hc]; simpa using h9
theorem fit_kind {x : Stm} (h : fitS x = true) : ∃ k : Nat, x.kind = k ∧ 1 ≤ k ∧ k ≤ 14 := by
  unfold fitS at h
  simp only [Bool.and_eq_true, decide_eq_true_eq] at h
  exact ⟨x.kind.toNat, by omega, by omega, by omega⟩
theorem plain_fit {n : Nat} {L : List Tok} {k i j : Nat} {pl : Int} {s : Stm} (hn : n ≤ 4000) (hL : TF n L) (h1 : 1 ≤ k) (h2 : k ≤ 14) (hp : 0 ≤ pl ∧ pl ≤ 4000) (h : plainP L k pl i = .ok s j) : fitS s = true ∧ s.kind = k ∧ s.body = 0 ∧ s.els = 0 := by
  unfold plainP at h
  split at h
  · obtain ⟨r, j1, e1, h⟩ := bind_ok_inv h
    obtain ⟨_, j2, e2, h⟩ := bind_ok_inv h
    obtain ⟨e, j3, e3, h⟩ := bind_ok_inv h
    simp at h; obtain ⟨rfl, _⟩ := h
    subst k
    exact ⟨fit_of (k := 1) rfl h1 h2 hp (name_ok e1) rfl (expr_ok hn hL e3) rfl rfl, rfl, rfl, rfl⟩
  split at h
  · obtain ⟨r, j1, e1, h⟩ := bind_ok_inv h
    obtain ⟨_, j2, e2, h⟩ := bind_ok_inv h
    obtain ⟨e, j3, e3, h⟩ := bind_ok_inv h
    simp at h; obtain ⟨rfl, _⟩ := h
    subst k
    exact ⟨fit_of (k := 2) rfl h1 h2 hp (name_ok e1) (name_ok e3) rfl rfl rfl, rfl, rfl, rfl⟩
  split at h
  · obtain ⟨r, j1, e1, h⟩ := bind_ok_inv h
    obtain ⟨_, j2, e2, h⟩ := bind_ok_inv h
    obtain ⟨e, j3, e3, h⟩ := bind_ok_inv h
    simp at h; obtain ⟨rfl, _⟩ := h
    subst k
    exact ⟨fit_of (k := 3) rfl h1 h2 hp rfl (name_ok e1) (expr_ok hn hL e3) rfl rfl, rfl, rfl, rfl⟩
  split at h
  · obtain ⟨r, j1, e1, h⟩ := bind_ok_inv h
    obtain ⟨_, j2, e2, h⟩ := bind_ok_inv h
    obtain ⟨m, j3, e3, h⟩ := bind_ok_inv h
    obtain ⟨_, j4, e4, h⟩ := bind_ok_inv h
    obtain ⟨e, j5, e5, h⟩ := bind_ok_inv h
    obtain ⟨_, j6, e6, h⟩ := bind_ok_inv h
    obtain ⟨f, j7, e7, h⟩ := bind_ok_inv h
    simp at h; obtain ⟨rfl, _⟩ := h
    subst k
    exact ⟨fit_of (k := 4) rfl h1 h2 hp (name_ok e1) (name_ok e3) (expr_ok hn hL e5) (expr_ok hn hL e7) rfl, rfl, rfl, rfl⟩
  split at h
  · rename_i hk
    obtain ⟨m, j1, e1, h⟩ := bind_ok_inv h
    simp at h; obtain ⟨rfl, _⟩ := h
    have hm := name_ok e1
    rcases hk with rfl | rfl | rfl | rfl
    · exact ⟨fit_of (k := 5) rfl h1 h2 hp rfl hm rfl rfl rfl, rfl, rfl, rfl⟩
    · exact ⟨fit_of (k := 6) rfl h1 h2 hp rfl hm rfl rfl rfl, rfl, rfl, rfl⟩
    · exact ⟨fit_of (k := 9) rfl h1 h2 hp rfl hm rfl rfl rfl, rfl, rfl, rfl⟩
    · exact ⟨fit_of (k := 10) rfl h1 h2 hp rfl hm rfl rfl rfl, rfl, rfl, rfl⟩
  split at h
  · rename_i hk
    obtain ⟨e, j1, e1, h⟩ := bind_ok_inv h
    simp at h; obtain ⟨rfl, _⟩ := h
    have hm := expr_ok hn hL e1
    rcases hk with rfl | rfl
    · exact ⟨fit_of (k := 11) rfl h1 h2 hp rfl rfl hm rfl rfl, rfl, rfl, rfl⟩
    · exact ⟨fit_of (k := 14) rfl h1 h2 hp rfl rfl hm rfl rfl, rfl, rfl, rfl⟩
  split at h
  · obtain ⟨m, j1, e1, h⟩ := bind_ok_inv h
    simp at h; obtain ⟨rfl, _⟩ := h
    have hm := times_ok e1
    subst k
    exact ⟨fit_of (k := 12) rfl h1 h2 hp rfl rfl rfl rfl (by simp; exact hm), rfl, rfl, rfl⟩
  · rename_i c1 c2 c3 c4 c5 c6 c7
    simp at h; obtain ⟨rfl, _⟩ := h
    refine ⟨fit_of (k := k) rfl h1 h2 hp ?_ ?_ ?_ ?_ ?_, rfl, rfl, rfl⟩
    · rw [if_neg (by omega)]; rfl
    · rw [if_neg (by omega)]; rfl
    · rw [if_neg (by omega)]; rfl
    · rw [if_neg (by omega)]; rfl
    · rw [if_neg (by omega)]; rfl

theorem good_nil : GoodB .nil := ⟨trivial, rfl⟩
theorem good_cons {s : Stm} {b e r : Bk} : GoodB (.cons s b e r) ↔ s.body = b.count ∧ s.els = e.count ∧ (0 < b.count → blkK s.kind) ∧ (0 < e.count → s.kind = 11) ∧ fitS s = true ∧ GoodB b ∧ GoodB e ∧ GoodB r := by
  unfold GoodB
  simp only [Bk.fit, Bk.flat, List.all_cons, List.all_append, Bool.and_eq_true]
  constructor
  · rintro ⟨⟨h1, h2, h3, h4, h5, h6, h7⟩, h8, h9, h10, h11⟩
    exact ⟨h1, h2, h3, h4, h8, ⟨h5, h9⟩, ⟨h6, h10⟩, ⟨h7, h11⟩⟩
  · rintro ⟨h1, h2, h3, h4, h8, ⟨h5, h9⟩, ⟨h6, h10⟩, ⟨h7, h11⟩⟩
    exact ⟨⟨h1, h2, h3, h4, h5, h6, h7⟩, h8, h9, h10, h11⟩
/-- What is right of a row that is read, in a block so deep, in so many loops. -/
def RowOK (row : Rows4) : Prop := ∀ i d l b j, d ≤ 12 → row i d l = some (.ok b j) → GoodB b ∧ b.brk l = true ∧ d + b.deep ≤ 12
theorem must_brace {L : List Tok} {i d : Nat} (h : ¬ (12 < d ∧ isB L i [123] = true)) {u : Unit} {j : Nat} (h2 : mustP L i [123] = .ok u j) : d ≤ 12 := by
  unfold mustP at h2
  split at h2
  · rename_i hc
    by_cases hd : 12 < d
    · exact absurd ⟨hd, hc⟩ h
    · omega
  · unfold badR at h2; cases h2
theorem block_ok {L : List Tok} {row : Rows4} (hr : RowOK row) {i d l j : Nat} {b : Bk} (h : blockW row L i d l = some (.ok b j)) : GoodB b ∧ b.brk l = true ∧ d + b.deep ≤ 12 := by
  unfold blockW at h
  split at h
  · unfold badR at h; simp at h
  · rename_i hc
    rcases RS.obind_some h with ⟨_, j1, h1, h2⟩ | ⟨e, p, h1, h2⟩
    · rcases RS.obind_some h2 with ⟨b1, j2, h3, h4⟩ | ⟨e, p, h3, h4⟩
      · rcases RS.obind_some h4 with ⟨_, j3, h5, h6⟩ | ⟨e, p, h5, h6⟩
        · simp at h6; obtain ⟨rfl, _⟩ := h6
          exact hr _ _ _ _ _ (must_brace hc (Option.some.inj h1)) h3
        · cases h6
      · cases h4
    · cases h2
theorem one_ok {n : Nat} {L : List Tok} {row : Rows4} (hn : n ≤ 4000) (hL : TF n L) (hr : RowOK row) {i d l j : Nat} {o : One} (hd : d ≤ 12) (h : oneW row L i d l = some (.ok o j)) :
    o.s.body = o.b.count ∧ o.s.els = o.e.count ∧ (0 < o.b.count → blkK o.s.kind) ∧ (0 < o.e.count → o.s.kind = 11) ∧ fitS o.s = true ∧ GoodB o.b ∧ GoodB o.e ∧
    (¬ o.s.kind = 13 ∨ 0 < l) ∧ o.b.brk (if o.s.kind = 12 then l + 1 else l) = true ∧ o.e.brk (if o.s.kind = 12 then l + 1 else l) = true ∧ (blkK o.s.kind → d + (o.b.deep + 1) ≤ 12 ∧ d + (o.e.deep + 1) ≤ 12) := by
  unfold oneW at h
  split at h
  · unfold badR at h; simp at h
  · rename_i hb
    have hkr := kind_range L i
    have hpl := place_le (n := n) (fun t ht => (hL t ht).1) (i : Int)
    rcases RS.obind_some h with ⟨s, j1, h1, h2⟩ | ⟨e, p, h1, h2⟩
    · obtain ⟨f1, f2, f3, f4⟩ := plain_fit hn hL hkr.1 hkr.2 ⟨hpl.1, by omega⟩ (Option.some.inj h1)
      have hbr : ¬ s.kind = 13 ∨ 0 < l := by rw [f2]; omega
      split at h2
      · rename_i hk
        rcases RS.obind_some h2 with ⟨_, j2, h3, h4⟩ | ⟨e, p, h3, h4⟩
        · simp at h4; obtain ⟨rfl, _⟩ := h4
          exact ⟨f3, f4, fun h => absurd h (by simp [Bk.count]), fun h => absurd h (by simp [Bk.count]), f1, good_nil, good_nil, hbr, rfl, rfl, fun h => absurd h (by show ¬ blkK s.kind; rw [f2]; exact hk)⟩
        · cases h4
      · rename_i hk
        have hk' : blkK s.kind := by rw [f2]; exact Decidable.not_not.1 hk
        rcases RS.obind_some h2 with ⟨b, j2, h3, h4⟩ | ⟨e, p, h3, h4⟩
        · obtain ⟨g1, g2, g3⟩ := block_ok hr h3
          rcases RS.obind_some h4 with ⟨e, j3, h5, h6⟩ | ⟨e, p, h5, h6⟩
          · simp at h6; obtain ⟨rfl, _⟩ := h6
            have hin : inL (kindAt L i) l = if s.kind = 12 then l + 1 else l := by
              unfold inL; rw [f2]
              by_cases hc : kindAt L i = 12
              · rw [if_pos hc, if_pos (by omega)]
              · rw [if_neg hc, if_neg (by omega)]
            rw [hin] at g2 h5
            have he : GoodB e ∧ e.brk (if s.kind = 12 then l + 1 else l) = true ∧ d + 1 + e.deep ≤ 12 ∧ (0 < e.count → s.kind = 11) := by
              unfold elseW4 at h5
              split at h5
              · rename_i hc
                obtain ⟨q1, q2, q3⟩ := block_ok hr h5
                exact ⟨q1, q2, q3, fun _ => by rw [f2, hc.1]; rfl⟩
              · simp at h5; obtain ⟨rfl, _⟩ := h5
                exact ⟨good_nil, rfl, by simp only [Bk.deep]; omega, fun h => absurd h (by simp [Bk.count])⟩
            obtain ⟨q1, q2, q3, q4⟩ := he
            exact ⟨rfl, rfl, fun _ => hk', q4, f1, g1, q1, hbr, g2, q2, fun _ => ⟨by show d + (b.deep + 1) ≤ 12; omega, by show d + (e.deep + 1) ≤ 12; omega⟩⟩
          · cases h6
        · cases h4
    · cases h2
theorem row_ok {n : Nat} {L : List Tok} (hn : n ≤ 4000) (hL : TF n L) : ∀ f, RowOK (rowF L f) := by
  intro f
  induction f with
  | zero => intro i d l b j _ h; simp [rowF] at h
  | succ f ih =>
    intro i d l b j hd h
    rw [rowF_succ] at h
    split at h
    · simp at h; obtain ⟨rfl, _⟩ := h
      exact ⟨good_nil, rfl, by simp only [Bk.deep]; omega⟩
    · rcases RS.obind_some h with ⟨o, j1, h1, h2⟩ | ⟨e, p, h1, h2⟩
      · rcases RS.obind_some h2 with ⟨r, j2, h3, h4⟩ | ⟨e, p, h3, h4⟩
        · simp at h4; obtain ⟨rfl, _⟩ := h4
          obtain ⟨g1, g2, g3⟩ := ih _ _ _ _ _ hd h3
          obtain ⟨q1, q2, q3, q4, q5, q6, q7, q8, q9, q10, q11⟩ := one_ok hn hL ih hd h1
          refine ⟨good_cons.2 ⟨q1, q2, q3, q4, q5, q6, q7, g1⟩, ?_, ?_⟩
          · simp only [Bk.brk, q9, q10, g2, Bool.and_true]
            simpa using q8
          · simp only [Bk.deep]
            split
            · rename_i hb; have := q11 hb; omega
            · omega
        · cases h4
      · cases h2
/-- What is read of a text's tokens. -/
theorem stmt_right {n : Nat} {L : List Tok} (hn : n ≤ 4000) (hL : TF n L) (i : Nat) : (∃ e p, e ≠ 0 ∧ stmtV L i = ⟨[], 0, e, p⟩) ∨ (∃ (b : Bk) (to : Nat), blockR L i 0 0 = .ok b to ∧ stmtV L i = ⟨b.flat, to, 0, 0⟩ ∧ b.fit ∧ rightS b.flat = true ∧ i + 2 ≤ to ∧ to ≤ L.length) := by
  have e0 : stmtV L i = stmtR L i (blockR L i 0 0) := by unfold stmtV; rw [if_neg (by omega), Int.toNat_natCast]
  have hs := blockR_some L i 0 0
  have ha := block_ahead (row_ahead L _) hs
  rw [e0]
  cases hb : blockR L i 0 0 with
  | bad e p => rw [hb] at ha; exact .inl ⟨e, p, ha, rfl⟩
  | ok b to =>
    rw [hb] at hs ha
    obtain ⟨g1, g2, g3⟩ := block_ok (row_ok hn hL _) hs
    by_cases hc : 40 < b.count
    · exact .inl ⟨2, placeV L i, by decide, by simp [stmtR, hc]⟩
    · refine .inr ⟨b, to, rfl, by simp [stmtR, hc], g1.1, rightS_good g1 (by omega) g2 (by omega), ?_, ha.2⟩
      unfold blockW at hs
      split at hs
      · unfold badR at hs; simp at hs
      · rcases RS.obind_some hs with ⟨_, j1, h1, h2⟩ | ⟨e, p, h1, h2⟩
        · have a1 := must_ahead L i [123]
          simp at h1; rw [h1] at a1
          rcases RS.obind_some h2 with ⟨b1, j2, h3, h4⟩ | ⟨e, p, h3, h4⟩
          · have a2 := row_ahead L _ _ _ _ _ a1.2 h3
            rcases RS.obind_some h4 with ⟨_, j3, h5, h6⟩ | ⟨e, p, h5, h6⟩
            · have a3 := must_ahead L j2 [125]
              simp at h5; rw [h5] at a3
              simp at h6
              have b1 := a1.1; have b2 := a2.1; have b3 := a3.1
              omega
            · cases h6
          · cases h4
        · cases h2
end Go.Proofs.YtpeohfgadnfnpaaGreatDoor
