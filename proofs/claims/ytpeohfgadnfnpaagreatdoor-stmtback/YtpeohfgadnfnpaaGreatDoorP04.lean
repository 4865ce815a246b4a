/-
  DERIVED. Layer 3: the plain mathematics of expressions: nodes, trees, where one ends, how deep it is; nothing of the program in it.
-/
namespace Go.Proofs.YtpeohfgadnfnpaaGreatDoor

/-- A node: operator, number, name, place. -/
structure Nod where
  op : Int
  n : Int
  name : List UInt8
  pl : Int
deriving DecidableEq

/-- How many operands an operator has. -/
def takesN (op : Int) : Option Nat := if op = 1 ∨ op = 2 then some 0 else if op = 3 ∨ op = 4 then some 1 else if 5 ≤ op ∧ op ≤ 15 then some 2 else none
def takesV (op : Int) : Int := match takesN op with
  | some t => t
  | none => -1
theorem takes_le {op : Int} {t : Nat} (h : takesN op = some t) : t ≤ 2 := by
  unfold takesN at h
  split at h
  · simp at h; omega
  · split at h
    · simp at h; omega
    · split at h
      · simp at h; omega
      · cases h
theorem takesV_some {op : Int} {t : Nat} (h : takesN op = some t) : takesV op = t := by unfold takesV; rw [h]
theorem takesV_none {op : Int} (h : takesN op = none) : takesV op = -1 := by unfold takesV; rw [h]
theorem takes_op {op : Int} {t : Nat} (h : takesN op = some t) : 1 ≤ op ∧ op ≤ 15 := by
  unfold takesN at h
  split at h
  · omega
  · split at h
    · omega
    · split at h
      · omega
      · cases h

/-- A whole expression. -/
inductive Ex where
  | leaf (a : Nod)
  | un (a : Nod) (x : Ex)
  | bin (a : Nod) (x y : Ex)
deriving DecidableEq
def Ex.flat : Ex → List Nod
  | .leaf a => [a]
  | .un a x => a :: x.flat
  | .bin a x y => a :: (x.flat ++ y.flat)
def Ex.ok : Ex → Prop
  | .leaf a => takesN a.op = some 0
  | .un a x => takesN a.op = some 1 ∧ x.ok
  | .bin a x y => takesN a.op = some 2 ∧ x.ok ∧ y.ok
def Ex.deep : Ex → Nat
  | .leaf _ => 1
  | .un _ x => x.deep + 1
  | .bin _ x y => max x.deep y.deep + 1
def Ex.size : Ex → Nat
  | .leaf _ => 1
  | .un _ x => x.size + 1
  | .bin _ x y => x.size + y.size + 1
def Ex.top : Ex → Nod
  | .leaf a => a
  | .un a _ => a
  | .bin a _ _ => a
theorem flat_len (x : Ex) : x.flat.length = x.size := by
  induction x with
  | leaf a => rfl
  | un a x ih => simp [Ex.flat, Ex.size, ih]
  | bin a x y ih1 ih2 => simp [Ex.flat, Ex.size, ih1, ih2]
theorem size_pos (x : Ex) : 1 ≤ x.size := by cases x <;> simp [Ex.size]
theorem deep_pos (x : Ex) : 1 ≤ x.deep := by cases x <;> simp [Ex.deep]
theorem deep_size (x : Ex) : x.deep ≤ x.size := by
  induction x with
  | leaf a => exact Nat.le_refl _
  | un a x ih => simp [Ex.deep, Ex.size]; omega
  | bin a x y ih1 ih2 => simp [Ex.deep, Ex.size]; omega
theorem flat_head (x : Ex) : ∃ r, x.flat = x.top :: r := by cases x <;> exact ⟨_, rfl⟩
theorem flat_ne (x : Ex) : x.flat ≠ [] := by obtain ⟨r, h⟩ := flat_head x; rw [h]; simp

/-- How many nodes the expressions that are still missing (one more than m) take. -/
def endC : Nat → List Nod → Option Nat
  | _, [] => none
  | m, a :: r => match takesN a.op with
    | none => none
    | some t => if m + t = 0 then some 1 else (endC (m + t - 1) r).map (· + 1)
def endV (L : List Nod) (i : Int) : Int := if i < 0 then -1 else match endC 0 (L.drop i.toNat) with
  | some k => i + k
  | none => -1
theorem endC_none {m : Nat} {a : Nod} (r : List Nod) (h : takesN a.op = none) : endC m (a :: r) = none := by unfold endC; rw [h]
theorem endC_last {a : Nod} (r : List Nod) (h : takesN a.op = some 0) : endC 0 (a :: r) = some 1 := by unfold endC; rw [h]; rfl
theorem endC_more {m t : Nat} {a : Nod} (r : List Nod) (h : takesN a.op = some t) (h2 : m + t ≠ 0) : endC m (a :: r) = (endC (m + t - 1) r).map (· + 1) := by
  rw [endC, h]; simp only; rw [if_neg h2]
theorem endC_join (m : Nat) : ∀ (l : List Nod) (n : Nat), endC (m + n + 1) l = (endC n l).bind fun k => (endC m (l.drop k)).map (· + k) := by
  intro l
  induction l with
  | nil => intro n; rfl
  | cons a r ih =>
    intro n
    cases ht : takesN a.op with
    | none => rw [endC_none r ht, endC_none r ht]; rfl
    | some t =>
      rw [endC_more r ht (by omega)]
      by_cases h0 : n + t = 0
      · obtain ⟨rfl, rfl⟩ : n = 0 ∧ t = 0 := by omega
        rw [endC_last r ht]
        show (endC m r).map _ = (endC m (List.drop 1 (a :: r))).map _
        rfl
      · rw [endC_more r ht h0, show m + n + 1 + t - 1 = m + (n + t - 1) + 1 from by omega, ih]
        cases h1 : endC (n + t - 1) r with
        | none => rfl
        | some k =>
          show Option.map _ (Option.map _ (endC m (r.drop k))) = Option.map _ (endC m ((a :: r).drop (k + 1)))
          rw [List.drop_succ_cons, Option.map_map]
          rfl
theorem endC_le : ∀ (l : List Nod) (m k : Nat), endC m l = some k → 1 ≤ k ∧ k ≤ l.length := by
  intro l
  induction l with
  | nil => intro m k h; cases h
  | cons a r ih =>
    intro m k h
    cases ht : takesN a.op with
    | none => rw [endC_none r ht] at h; cases h
    | some t =>
      by_cases h0 : m + t = 0
      · obtain ⟨rfl, rfl⟩ : m = 0 ∧ t = 0 := by omega
        rw [endC_last r ht] at h
        simp at h; simp; omega
      · rw [endC_more r ht h0] at h
        cases h1 : endC (m + t - 1) r with
        | none => rw [h1] at h; cases h
        | some j =>
          rw [h1] at h; simp at h
          have := ih _ _ h1
          simp; omega
/-- A whole expression ends behind its nodes. -/
theorem endC_flat (x : Ex) : ∀ (r : List Nod), x.ok → endC 0 (x.flat ++ r) = some x.size := by
  induction x with
  | leaf a => intro r h; exact endC_last r h
  | un a x ih =>
    intro r h
    show endC 0 (a :: (x.flat ++ r)) = _
    rw [endC_more _ h.1 (by omega)]
    show Option.map _ (endC 0 _) = _
    rw [ih r h.2]; rfl
  | bin a x y ih1 ih2 =>
    intro r h
    show endC 0 (a :: (x.flat ++ y.flat ++ r)) = _
    rw [endC_more _ h.1 (by omega)]
    show Option.map _ (endC (0 + 0 + 1) _) = _
    rw [endC_join 0 _ 0, List.append_assoc, ih1 _ h.2.1]
    show Option.map _ (Option.map _ (endC 0 (List.drop x.size (x.flat ++ (y.flat ++ r))))) = _
    rw [← flat_len x, List.drop_left, ih2 _ h.2.2, flat_len]
    show some (y.size + x.size + 1) = some (x.size + y.size + 1)
    rw [Nat.add_comm y.size]
/-- And what ends so is whole expressions. -/
theorem endC_trees : ∀ (l : List Nod) (m k : Nat), endC m l = some k → ∃ xs : List Ex, xs.length = m + 1 ∧ (∀ x ∈ xs, x.ok) ∧ xs.flatMap Ex.flat = l.take k := by
  intro l
  induction l with
  | nil => intro m k h; cases h
  | cons a r ih =>
    intro m k h
    cases ht : takesN a.op with
    | none => rw [endC_none r ht] at h; cases h
    | some t =>
      by_cases h0 : m + t = 0
      · obtain ⟨rfl, rfl⟩ : m = 0 ∧ t = 0 := by omega
        rw [endC_last r ht] at h
        simp at h; subst h
        exact ⟨[.leaf a], rfl, fun x hx => by simp at hx; subst hx; exact ht, rfl⟩
      · rw [endC_more r ht h0] at h
        cases h1 : endC (m + t - 1) r with
        | none => rw [h1] at h; cases h
        | some j =>
          rw [h1] at h; simp at h; subst h
          obtain ⟨xs, hl, ho, hf⟩ := ih _ _ h1
          have ht2 := takes_le ht
          match t, ht, ht2, hl with
          | 0, ht, _, hl =>
            refine ⟨.leaf a :: xs, by simp; omega, fun x hx => ?_, ?_⟩
            · rcases List.mem_cons.1 hx with rfl | hx
              · exact ht
              · exact ho x hx
            · rw [List.flatMap_cons, hf, List.take_succ_cons]; rfl
          | 1, ht, _, hl =>
            match xs, hl, ho, hf with
            | x :: xs, hl, ho, hf =>
              refine ⟨.un a x :: xs, by simp only [List.length_cons] at hl ⊢; omega, fun y hy => ?_, ?_⟩
              · rcases List.mem_cons.1 hy with rfl | hy
                · exact ⟨ht, ho x (by simp)⟩
                · exact ho y (by simp [hy])
              · rw [List.flatMap_cons] at hf ⊢
                rw [List.take_succ_cons, ← hf]; rfl
          | 2, ht, _, hl =>
            match xs, hl, ho, hf with
            | [x], hl, ho, hf => simp at hl
            | x :: y :: xs, hl, ho, hf =>
              refine ⟨.bin a x y :: xs, by simp only [List.length_cons] at hl ⊢; omega, fun z hz => ?_, ?_⟩
              · rcases List.mem_cons.1 hz with rfl | hz
                · exact ⟨ht, ho x (by simp), ho y (by simp)⟩
                · exact ho z (by simp [hz])
              · rw [List.flatMap_cons, List.flatMap_cons] at hf
                rw [List.flatMap_cons, List.take_succ_cons, ← hf]
                simp [Ex.flat]
theorem endC_tree {l : List Nod} {k : Nat} (h : endC 0 l = some k) : ∃ x : Ex, x.ok ∧ x.flat = l.take k ∧ x.size = k := by
  obtain ⟨xs, hl, ho, hf⟩ := endC_trees l 0 k h
  match xs, hl, ho, hf with
  | [x], _, ho, hf =>
    have hk := endC_le l 0 k h
    have e : x.flat = l.take k := by simpa using hf
    refine ⟨x, ho x (by simp), e, ?_⟩
    rw [← flat_len, e, List.length_take]; omega

/-! ### From nodes back to the expression. -/
def readN : Nat → List Nod → Option (Ex × List Nod)
  | 0, _ => none
  | _ + 1, [] => none
  | f + 1, a :: r => match takesN a.op with
    | some 0 => some (.leaf a, r)
    | some 1 => match readN f r with
      | some (x, r1) => some (.un a x, r1)
      | none => none
    | some 2 => match readN f r with
      | some (x, r1) => match readN f r1 with
        | some (y, r2) => some (.bin a x y, r2)
        | none => none
      | none => none
    | _ => none
theorem readN_flat (x : Ex) : ∀ (f : Nat) (r : List Nod), x.ok → x.size ≤ f → readN f (x.flat ++ r) = some (x, r) := by
  induction x with
  | leaf a =>
    intro f r h hf
    cases f with
    | zero => simp [Ex.size] at hf
    | succ f => show readN (f + 1) (a :: r) = _; rw [readN, show takesN a.op = some 0 from h]; rfl
  | un a x ih =>
    intro f r h hf
    cases f with
    | zero => simp [Ex.size] at hf
    | succ f =>
      show readN (f + 1) (a :: (x.flat ++ r)) = _
      rw [readN, h.1]
      simp only
      rw [ih f r h.2 (by simp [Ex.size] at hf; omega)]
  | bin a x y ih1 ih2 =>
    intro f r h hf
    cases f with
    | zero => simp [Ex.size] at hf
    | succ f =>
      show readN (f + 1) (a :: (x.flat ++ y.flat ++ r)) = _
      rw [readN, h.1]
      simp only
      rw [List.append_assoc, ih1 f _ h.2.1 (by simp [Ex.size] at hf; omega)]
      simp only
      rw [ih2 f r h.2.2 (by simp [Ex.size] at hf; omega)]
theorem readN_back : ∀ (f : Nat) (l : List Nod) (x : Ex) (r : List Nod), readN f l = some (x, r) → x.ok ∧ l = x.flat ++ r := by
  intro f
  induction f with
  | zero => intro l x r h; cases h
  | succ f ih =>
    intro l x r h
    cases l with
    | nil => cases h
    | cons a l =>
      unfold readN at h
      split at h
      · rename_i ht
        simp at h; obtain ⟨rfl, rfl⟩ := h
        exact ⟨ht, rfl⟩
      · rename_i ht
        split at h
        · rename_i x1 r1 h1
          simp at h; obtain ⟨rfl, rfl⟩ := h
          obtain ⟨i1, rfl⟩ := ih _ _ _ h1
          exact ⟨⟨ht, i1⟩, rfl⟩
        · cases h
      · rename_i ht
        split at h
        · rename_i x1 r1 h1
          split at h
          · rename_i y1 r2 h2
            simp at h; obtain ⟨rfl, rfl⟩ := h
            obtain ⟨i1, rfl⟩ := ih _ _ _ h1
            obtain ⟨i2, rfl⟩ := ih _ _ _ h2
            exact ⟨⟨ht, i1, i2⟩, by simp [Ex.flat]⟩
          · cases h
        · cases h
      · cases h
/-- The expression that nodes are, if they are one. -/
def wholeT (L : List Nod) : Option Ex := match readN L.length L with
  | some (x, []) => some x
  | _ => none
theorem whole_flat {x : Ex} (h : x.ok) : wholeT x.flat = some x := by
  unfold wholeT
  have := readN_flat x x.flat.length [] h (by rw [flat_len]; exact Nat.le_refl _)
  rw [List.append_nil] at this
  rw [this]
theorem whole_some {L : List Nod} {x : Ex} (h : wholeT L = some x) : x.ok ∧ L = x.flat := by
  unfold wholeT at h
  split at h
  · rename_i y hy
    simp at h; subst h
    have := readN_back _ _ _ _ hy
    simpa using this
  · cases h
theorem end_whole {L : List Nod} {x : Ex} (h : wholeT L = some x) : endV L 0 = L.length := by
  obtain ⟨ho, rfl⟩ := whole_some h
  have := endC_flat x [] ho
  rw [List.append_nil] at this
  unfold endV
  rw [if_neg (by omega)]
  show (match endC 0 (x.flat.drop 0) with | some k => (0 : Int) + k | none => -1) = _
  rw [List.drop_zero, this, flat_len]; simp
theorem end_not {L : List Nod} (h : wholeT L = none) : endV L 0 ≠ L.length := by
  intro e
  unfold endV at e
  rw [if_neg (by omega)] at e
  simp only [Int.toNat_zero, List.drop_zero] at e
  cases hc : endC 0 L with
  | none => rw [hc] at e; simp only at e; omega
  | some k =>
    rw [hc] at e; simp only at e
    obtain ⟨x, ho, hf, _⟩ := endC_tree hc
    rw [List.take_of_length_le (by omega)] at hf
    rw [← hf, whole_flat ho] at h; cases h

/-! ### Where expressions end, in steps. -/
theorem endV_neg {L : List Nod} {i : Int} (h : i < 0) : endV L i = -1 := by unfold endV; rw [if_pos h]
theorem endV_out {L : List Nod} {i : Int} (h : (L.length : Int) ≤ i) : endV L i = -1 := by
  unfold endV
  split
  · rfl
  · rw [List.drop_eq_nil_of_le (by omega)]; rfl
theorem endV_nat (L : List Nod) (i : Nat) : endV L i = match endC 0 (L.drop i) with | some k => ((i + k : Nat) : Int) | none => -1 := by
  unfold endV
  rw [if_neg (by omega), Int.toNat_natCast]
  cases endC 0 (L.drop i) <;> simp
theorem drop_cons {L : List Nod} {i : Nat} {a : Nod} (h : L[i]? = some a) : L.drop i = a :: L.drop (i + 1) := by
  obtain ⟨hi, e⟩ := List.getElem?_eq_some_iff.1 h
  rw [List.drop_eq_getElem_cons hi, e]
theorem endV_none {L : List Nod} {i : Nat} {a : Nod} (h : L[i]? = some a) (ht : takesN a.op = none) : endV L i = -1 := by
  rw [endV_nat, drop_cons h, endC_none _ ht]
theorem endV_zero {L : List Nod} {i : Nat} {a : Nod} (h : L[i]? = some a) (ht : takesN a.op = some 0) : endV L i = i + 1 := by
  rw [endV_nat, drop_cons h, endC_last _ ht]; simp
theorem endV_one {L : List Nod} {i : Nat} {a : Nod} (h : L[i]? = some a) (ht : takesN a.op = some 1) : endV L i = endV L (i + 1 : Nat) := by
  rw [endV_nat, drop_cons h, endC_more _ ht (by omega), endV_nat]
  show (match Option.map _ (endC 0 (L.drop (i + 1))) with | some k => ((i + k : Nat) : Int) | none => -1) = _
  cases endC 0 (L.drop (i + 1)) with
  | none => rfl
  | some k => show ((i + (k + 1) : Nat) : Int) = ((i + 1 + k : Nat) : Int); omega
theorem endV_two {L : List Nod} {i : Nat} {a : Nod} (h : L[i]? = some a) (ht : takesN a.op = some 2) : endV L i = if endV L (i + 1 : Nat) < 0 then -1 else endV L (endV L (i + 1 : Nat)) := by
  rw [endV_nat L i, drop_cons h, endC_more _ ht (by omega), endV_nat L (i + 1)]
  show (match Option.map _ (endC (0 + 0 + 1) (L.drop (i + 1))) with | some k => ((i + k : Nat) : Int) | none => -1) = _
  rw [endC_join 0 _ 0]
  cases h1 : endC 0 (L.drop (i + 1)) with
  | none => rfl
  | some k =>
    show (match Option.map _ (Option.map _ (endC 0 ((L.drop (i + 1)).drop k))) with | some k => ((i + k : Nat) : Int) | none => -1) = if ((i + 1 + k : Nat) : Int) < 0 then -1 else endV L (i + 1 + k : Nat)
    rw [if_neg (by omega), endV_nat, List.drop_drop]
    cases endC 0 (L.drop (i + 1 + k)) with
    | none => rfl
    | some j => show ((i + (j + k + 1) : Nat) : Int) = ((i + 1 + k + j : Nat) : Int); omega
theorem endV_range (L : List Nod) (i : Int) : endV L i = -1 ∨ (0 ≤ i ∧ i < endV L i ∧ endV L i ≤ L.length) := by
  by_cases h : i < 0
  · exact .inl (endV_neg h)
  · obtain ⟨k, rfl⟩ : ∃ k : Nat, i = k := ⟨i.toNat, by omega⟩
    rw [endV_nat]
    cases hc : endC 0 (L.drop k) with
    | none => exact .inl rfl
    | some j =>
      have := endC_le _ _ _ hc
      rw [List.length_drop] at this
      right
      simp only
      omega
end Go.Proofs.YtpeohfgadnfnpaaGreatDoor
