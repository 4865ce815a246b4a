/-
  DERIVED. Layer 1: the plain mathematics of digits, values and texts, with nothing of the program in it.
-/
namespace Go.Proofs.YtnlodnkdppgddaaDoor

/-- Is a byte a digit? -/
def digB (c : UInt8) : Bool := decide (48 ≤ c.toNat) && decide (c.toNat ≤ 57)
/-- Digits alone, the first one no 0. -/
def plainB (l : List UInt8) : Bool := !l.isEmpty && l.all digB && l.head? != some 48
/-- What digits tell. -/
def valFrom (n : Nat) (l : List UInt8) : Nat := l.foldl (fun n c => n * 10 + (c.toNat - 48)) n
def valN (l : List UInt8) : Nat := valFrom 0 l

theorem valFrom_append (n : Nat) (l m : List UInt8) : valFrom n (l ++ m) = valFrom (valFrom n l) m := by
  simp [valFrom, List.foldl_append]
theorem valFrom_ge (l : List UInt8) : ∀ n, n ≤ valFrom n l := by
  induction l with
  | nil => intro n; exact Nat.le_refl _
  | cons c l ih =>
    intro n
    have h := ih (n * 10 + (c.toNat - 48))
    show n ≤ valFrom (n * 10 + (c.toNat - 48)) l
    omega
theorem valN_take_le (l : List UInt8) (k : Nat) : valN (l.take k) ≤ valN l := by
  have h : valN l = valFrom (valN (l.take k)) (l.drop k) := by
    rw [show valN l = valN (l.take k ++ l.drop k) from by rw [List.take_append_drop]]
    exact valFrom_append 0 _ _
  rw [h]; exact valFrom_ge _ _
theorem valN_snoc (l : List UInt8) (c : UInt8) : valN (l ++ [c]) = valN l * 10 + (c.toNat - 48) := by
  unfold valN; rw [valFrom_append]; rfl
theorem take_snoc (s : ByteArray) (k : Nat) (h : k < s.size) : s.data.toList.take (k + 1) = s.data.toList.take k ++ [s[k]] := by
  rw [List.take_succ_eq_append_getElem (by simpa using h)]; rfl
theorem take_all (s : ByteArray) (k : Nat) (h : ¬ k < s.size) : s.data.toList.take k = s.data.toList :=
  List.take_of_length_le (by simp; show s.size ≤ k; omega)
theorem mem_at (s : ByteArray) (k : Nat) (h : k < s.size) : s[k] ∈ s.data.toList := by
  have : s[k] = s.data.toList[k]'(by simpa using h) := rfl
  rw [this]; exact List.getElem_mem _
theorem head_at (s : ByteArray) (h : 0 < s.size) : s.data.toList.head? = some s[0] := by
  rw [List.head?_eq_getElem?, List.getElem?_eq_getElem (by simpa using h)]; rfl
theorem plainB_bad (s : ByteArray) (k : Nat) (h : k < s.size) (hd : digB s[k] = false) : plainB s.data.toList = false := by
  have : s.data.toList.all digB = false := by
    rw [List.all_eq_false]; exact ⟨_, mem_at s k h, by simp [hd]⟩
  simp [plainB, this]
theorem plainB_zero (s : ByteArray) (h : 0 < s.size) (hd : s[0] = 48) : plainB s.data.toList = false := by
  simp [plainB, head_at s h, hd]
/-- What holds when the first k bytes have been let by. -/
def okTo (s : ByteArray) (k : Nat) : Prop := (s.data.toList.take k).all digB = true ∧ (0 < k → s.data.toList.head? ≠ some 48)
theorem okTo_zero (s : ByteArray) : okTo s 0 := ⟨by simp, fun h => absurd h (by omega)⟩
theorem okTo_succ (s : ByteArray) (k : Nat) (h : k < s.size) (ho : okTo s k) (hd : digB s[k] = true) (hz : k = 0 → s[k] ≠ 48) : okTo s (k + 1) := by
  refine ⟨by rw [take_snoc s k h, List.all_append, ho.1]; simp [hd], fun _ => ?_⟩
  by_cases hk : k = 0
  · subst hk; rw [head_at s h]; intro e; exact hz rfl (by simpa using e)
  · exact ho.2 (by omega)
theorem okTo_end (s : ByteArray) (k : Nat) (h : ¬ k < s.size) (ho : okTo s k) : plainB s.data.toList = !s.data.toList.isEmpty := by
  have h1 := ho.1
  rw [take_all s k h] at h1
  unfold plainB
  rw [h1]
  by_cases hs : 0 < s.size
  · have h2 := ho.2 (by omega)
    simp [h2]
  · have : s.data.toList = [] := by
      have : s.data.toList.length = 0 := by
        have e : s.data.toList.length = s.size := rfl
        omega
      exact List.length_eq_zero_iff.1 this
    simp [this]

/-- The greatest number that can stand behind a minus sign. -/
def maxN : Nat := 9223372036854775808
/-- What a text is as a number, and what is wrong of it: words.Parse. -/
def parseV (l : List UInt8) : Int × Int :=
  if l = [48] then (0, 0)
  else
    let minus := l.head? == some 45
    let d := if minus then l.tail else l
    if plainB d = false then (0, 8)
    else if maxN < valN d ∨ (minus = false ∧ valN d = maxN) then (0, 4)
    else if minus then (-(valN d : Int), 0) else ((valN d : Int), 0)
end Go.Proofs.YtnlodnkdppgddaaDoor
