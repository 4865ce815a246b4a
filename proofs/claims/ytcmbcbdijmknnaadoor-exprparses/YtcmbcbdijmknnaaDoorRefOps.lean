/-
  DERIVED. Layer 3: which operator of a floor stands at a place: nothing of the program's walks in it.
-/
import Derived.Test.YtcmbcbdijmknnaaDoorRefBad
import Derived.Test.YtcmbcbdijmknnaaDoorRead
namespace Go.Proofs.YtcmbcbdijmknnaaDoor

/-- The last operator of a list whose sign stands at a place; 0, if there is none. -/
def lastOp (L : List Tok) (i : Nat) (l : List Int) : Int := l.foldl (fun acc op => if isB L i (signT op.toNat) = true then op else acc) 0
theorem isB_one {L : List Tok} {i : Nat} {s t : List UInt8} (h : isB L i s = true) (h2 : isB L i t = true) : s = t := by
  unfold isB at h h2
  simp only [Int.natCast_nonneg, Int.toNat_natCast] at h h2
  cases hl : L[i]? with
  | none => simp [hl] at h
  | some a =>
    simp [hl] at h h2
    rw [← h.2, ← h2.2]
theorem fold_none {L : List Tok} {i : Nat} : ∀ (l : List Int) (acc : Int), (∀ op ∈ l, isB L i (signT op.toNat) = false) → l.foldl (fun acc op => if isB L i (signT op.toNat) = true then op else acc) acc = acc
  | [], _, _ => rfl
  | a :: l, acc, h => by
    rw [List.foldl_cons, if_neg (by rw [h a (by simp)]; decide)]
    exact fold_none l acc (fun op ho => h op (by simp [ho]))
theorem fold_hit {L : List Tok} {i : Nat} {o : Int} (ho : isB L i (signT o.toNat) = true) : ∀ (l : List Int) (acc : Int), o ∈ l → (∀ op ∈ l, isB L i (signT op.toNat) = true → op = o) → l.foldl (fun acc op => if isB L i (signT op.toNat) = true then op else acc) acc = o
  | [], _, h, _ => by simp at h
  | a :: l, acc, h, hu => by
    rw [List.foldl_cons]
    by_cases hl : o ∈ l
    · exact fold_hit ho l _ hl (fun op h1 h2 => hu op (by simp [h1]) h2)
    · have ha : o = a := by
        rcases List.mem_cons.1 h with h | h
        · exact h
        · exact absurd h hl
      subst ha
      rw [if_pos ho]
      refine fold_none l o (fun op h1 => ?_)
      cases h2 : isB L i (signT op.toNat) with
      | false => rfl
      | true => exact absurd (hu op (by simp [h1]) h2 ▸ h1) hl
theorem floor_binds : ∀ n : Fin 5, ∀ op ∈ floorOps n, 3 ≤ op ∧ op ≤ 15 ∧ bindT op.toNat = ((n : Nat) : Int) + 1 := by decide
theorem floor_mem : ∀ (n : Fin 5) (op : Fin 16), bindT op = ((n : Nat) : Int) + 1 → ((op : Nat) : Int) ∈ floorOps n := by decide
theorem floor_apart : ∀ n : Fin 5, ∀ a ∈ floorOps n, ∀ b ∈ floorOps n, signT a.toNat = signT b.toNat → a = b := by decide
/-- The operator that stands at a place, as a floor finds it. -/
theorem last_sign {L : List Tok} {i n : Nat} (hn : n < 5) : lastOp L i (floorOps n) = (signAt L (n + 1) i : Nat) := by
  unfold lastOp
  by_cases h : signAt L (n + 1) i = 0
  · rw [h]
    refine fold_none _ _ (fun op ho => ?_)
    obtain ⟨h1, h2, h3⟩ := floor_binds ⟨n, hn⟩ op ho
    exact signAt_none (by omega) h op.toNat (by omega) (by rw [h3]; simp)
  · obtain ⟨h1, h2, h3⟩ := signAt_spec h
    have hm : ((signAt L (n + 1) i : Nat) : Int) ∈ floorOps n := floor_mem ⟨n, hn⟩ ⟨_, h1⟩ (by show bindT (signAt L (n + 1) i) = _; rw [h2]; simp)
    refine fold_hit (o := ((signAt L (n + 1) i : Nat) : Int)) (by simpa using h3) _ _ hm (fun op ho hb => ?_)
    exact floor_apart ⟨n, hn⟩ op ho _ hm (isB_one hb (by simpa using h3))
end Go.Proofs.YtcmbcbdijmknnaaDoor
