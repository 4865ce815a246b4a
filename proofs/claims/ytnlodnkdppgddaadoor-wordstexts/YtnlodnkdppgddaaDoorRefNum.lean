/-
  DERIVED. Layer 1: the plain mathematics of the reader that the law WordsTexts holds words.Parse against.
-/
import Derived.Test.YtnlodnkdppgddaaDoorNumBack
import Derived.RowKit
import Derived.IntWalk
namespace Go.Proofs.YtnlodnkdppgddaaDoor
open Go Go.RowKit

/-- The bytes from place f up to place k. -/
def segR (s : ByteArray) (f k : Nat) : List UInt8 := (s.data.toList.take k).drop f
theorem len_data (s : ByteArray) : s.data.toList.length = s.size := rfl
theorem seg_succ (s : ByteArray) (f k : Nat) (hf : f ≤ k) (hk : k < s.size) : segR s f (k + 1) = segR s f k ++ [s[k]] := by
  unfold segR
  rw [take_snoc s k hk, List.drop_append_of_le_length (by rw [List.length_take, len_data]; omega)]
theorem seg_full (s : ByteArray) (f k : Nat) (h : ¬ k < s.size) : segR s f k = s.data.toList.drop f := by
  unfold segR; rw [take_all s k h]
theorem seg_start (s : ByteArray) (f : Nat) : segR s f f = [] := by
  unfold segR; rw [List.drop_eq_nil_iff]; exact List.length_take_le _ _
theorem seg_len (s : ByteArray) (f k : Nat) (h : k ≤ s.size) : (segR s f k).length = k - f := by
  unfold segR; rw [List.length_drop, List.length_take, len_data]; omega
/-- What holds when the bytes up to place k have been let by. -/
def okR (s : ByteArray) (f k : Nat) : Prop := (segR s f k).all digB = true ∧ ¬ ((segR s f k).head? = some 48 ∧ 1 < s.size)
theorem okR_start (s : ByteArray) (f : Nat) : okR s f f := by unfold okR; rw [seg_start]; simp
theorem okR_succ (s : ByteArray) (f k : Nat) (hf : f ≤ k) (hk : k < s.size) (ho : okR s f k) (hd : digB s[k] = true) (hz : k = f → ¬ (s[k] = 48 ∧ 1 < s.size)) : okR s f (k + 1) := by
  unfold okR at *
  rw [seg_succ s f k hf hk]
  refine ⟨by rw [List.all_append, ho.1, all_one hd]; rfl, ?_⟩
  by_cases h : segR s f k = []
  · have : k = f := by have := seg_len s f k (by omega); rw [h] at this; simp at this; omega
    rw [h]
    intro e
    exact hz this ⟨by simpa using e.1, e.2⟩
  · rw [head_app _ h]; exact ho.2

/-- Which bytes are read: behind a minus sign, or all. -/
def Sgn (l : List UInt8) (f : Nat) : Prop := (f = 0 ∧ l.head? ≠ some 45) ∨ (f = 1 ∧ l.head? = some 45)
theorem parse_sgn (l : List UInt8) (f : Nat) (h : Sgn l f) (hz : l ≠ [48]) : parseV l =
    if plainB (l.drop f) = false then (0, 8)
    else if maxN < valN (l.drop f) ∨ (f = 0 ∧ valN (l.drop f) = maxN) then (0, 4)
    else if f = 1 then (-(valN (l.drop f) : Int), 0) else ((valN (l.drop f) : Int), 0) := by
  unfold parseV
  rw [if_neg hz]
  rcases h with ⟨rfl, h⟩ | ⟨rfl, h⟩
  · have e : (l.head? == some 45) = false := by simpa using h
    simp only [e, List.drop_zero, Bool.false_eq_true, if_false]
    rw [if_neg (show ¬ (0 : Nat) = 1 by simp)]
  · have e : (l.head? == some 45) = true := by simpa using h
    have e2 : l.tail = l.drop 1 := by simp
    simp only [e, e2, if_true]
    generalize valN (l.drop 1) = v
    generalize plainB (l.drop 1) = pb
    by_cases hv : maxN < v
    · rw [if_pos (show maxN < v ∨ true = false ∧ v = maxN from .inl hv), if_pos (show maxN < v ∨ (1 : Nat) = 0 ∧ v = maxN from .inl hv)]
    · rw [if_neg (show ¬ (maxN < v ∨ true = false ∧ v = maxN) from fun x => x.elim hv (fun y => absurd y.1 (by simp))), if_neg (show ¬ (maxN < v ∨ (1 : Nat) = 0 ∧ v = maxN) from fun x => x.elim hv (fun y => absurd y.1 (by simp)))]
theorem parse_no (l : List UInt8) (f : Nat) (h : Sgn l f) (hz : l ≠ [48]) (hp : plainB (l.drop f) = false) : parseV l = (0, 8) := by
  rw [parse_sgn l f h hz, if_pos hp]

theorem drop_mem (s : ByteArray) (f k : Nat) (hf : f ≤ k) (hk : k < s.size) : s[k] ∈ s.data.toList.drop f := by
  have : s.data.toList.drop f = segR s f s.size := (seg_full s f s.size (by omega)).symm
  rw [List.mem_drop_iff_getElem]
  exact ⟨k - f, by rw [len_data]; omega, by
    have e : f + (k - f) = k := by omega
    simp only [e]; rfl⟩
/-- A byte that is no digit. -/
theorem parse_bad (s : ByteArray) (f k : Nat) (h : Sgn s.data.toList f) (hf : f ≤ k) (hk : k < s.size) (hd : digB s[k] = false) : parseV s.data.toList = (0, 8) := by
  have hm := drop_mem s f k hf hk
  have ha : (s.data.toList.drop f).all digB = false := by
    rw [List.all_eq_false]; exact ⟨_, hm, by simp [hd]⟩
  refine parse_no _ f h ?_ (by simp [plainB, ha])
  intro e
  have := List.mem_of_mem_drop hm
  rw [e] at this
  simp at this
  rw [this] at hd
  exact absurd hd (by decide)
/-- A zero ahead. -/
theorem parse_zero (s : ByteArray) (f : Nat) (h : Sgn s.data.toList f) (hk : f < s.size) (hd : s[f] = 48) (hl : 1 < s.size) : parseV s.data.toList = (0, 8) := by
  refine parse_no _ f h (fun e => by have := len_data s; rw [e] at this; simp at this; omega) ?_
  have : (s.data.toList.drop f).head? = some 48 := by
    rw [List.head?_drop, List.getElem?_eq_getElem (by rw [len_data]; exact hk)]
    exact congrArg some hd
  simp [plainB, this]
/-- Nothing to be read. -/
theorem parse_none (s : ByteArray) (f : Nat) (h : Sgn s.data.toList f) (hk : s.size = f) : parseV s.data.toList = (0, 8) := by
  have hd : s.data.toList.drop f = [] := by rw [List.drop_eq_nil_iff, len_data]; omega
  refine parse_no _ f h ?_ (by rw [hd]; decide)
  intro e
  rcases h with ⟨rfl, _⟩ | ⟨rfl, h⟩
  · have := len_data s; rw [e] at this; simp at this; omega
  · rw [e] at h; simp at h

def invP (v : Nat) (N : Int) (ov : Bool) : Prop := (ov = false ∧ N = (v : Int) ∧ v ≤ 9223372036854775807) ∨ (ov = true ∧ 9223372036854775807 < v)
def invM (v : Nat) (N : Int) (ov : Bool) : Prop := (ov = false ∧ N = -(v : Int) ∧ v ≤ 9223372036854775808) ∨ (ov = true ∧ 9223372036854775808 < v)
/-- All has been read. -/
theorem ok_plain (s : ByteArray) (f k : Nat) (hk : ¬ k < s.size) (hf : f < s.size) (ho : okR s f k) (hz : s.data.toList ≠ [48]) (h : Sgn s.data.toList f) : plainB (s.data.toList.drop f) = true := by
  unfold okR at ho
  rw [seg_full s f k hk] at ho
  have hne : s.data.toList.drop f ≠ [] := by rw [Ne, List.drop_eq_nil_iff, len_data]; omega
  have h48 : (s.data.toList.drop f).head? ≠ some 48 := by
    intro e
    by_cases hl : 1 < s.size
    · exact ho.2 ⟨e, hl⟩
    · obtain rfl : f = 0 := by omega
      apply hz
      have e1 : s.data.toList.length = 1 := by rw [len_data]; omega
      obtain ⟨c, hc⟩ := List.length_eq_one_iff.1 e1
      rw [hc] at e ⊢
      simp at e
      rw [e]
  unfold plainB
  rw [ho.1, Bool.and_true]
  generalize s.data.toList.drop f = d at *
  simp [h48, hne]
theorem end_plus (s : ByteArray) (k : Nat) (N : Int) (ov : Bool) (hk : ¬ k < s.size) (hf : 0 < s.size) (ho : okR s 0 k) (h : Sgn s.data.toList 0) (hi : invP (valN (segR s 0 k)) N ov) :
    parseV s.data.toList = if ov = true then (0, 4) else (N, 0) := by
  by_cases hz : s.data.toList = [48]
  · rw [seg_full s 0 k hk, List.drop_zero, hz] at hi
    rw [hz]
    have e : valN [48] = 0 := by decide
    rw [e] at hi
    rcases hi with ⟨rfl, rfl, _⟩ | ⟨_, hv⟩
    · decide
    · omega
  · have hp := ok_plain s 0 k hk hf ho hz h
    rw [parse_sgn _ 0 h hz, if_neg (by rw [hp]; simp)]
    rw [seg_full s 0 k hk] at hi
    rcases hi with ⟨rfl, rfl, hv⟩ | ⟨rfl, hv⟩
    · rw [if_neg (by unfold maxN; omega), if_neg (by omega), if_neg (by simp)]
    · rw [if_pos (by unfold maxN; omega), if_pos rfl]
theorem end_minus (s : ByteArray) (k : Nat) (N : Int) (ov : Bool) (hk : ¬ k < s.size) (hf : 1 < s.size) (ho : okR s 1 k) (h : Sgn s.data.toList 1) (hi : invM (valN (segR s 1 k)) N ov) :
    parseV s.data.toList = if ov = true then (0, 4) else (N, 0) := by
  have hz : s.data.toList ≠ [48] := fun e => by have := len_data s; rw [e] at this; simp at this; omega
  have hp := ok_plain s 1 k hk hf ho hz h
  rw [parse_sgn _ 1 h hz, if_neg (by rw [hp]; simp)]
  rw [seg_full s 1 k hk] at hi
  rcases hi with ⟨rfl, rfl, hv⟩ | ⟨rfl, hv⟩
  · rw [if_neg (by unfold maxN; omega), if_pos rfl, if_neg (by simp)]
  · rw [if_pos (by unfold maxN; omega), if_pos rfl]
theorem seg_val (s : ByteArray) (f k : Nat) (hf : f ≤ k) (hk : k < s.size) : valN (segR s f (k + 1)) = valN (segR s f k) * 10 + (s[k].toNat - 48) := by
  rw [seg_succ s f k hf hk, valN_snoc]
end Go.Proofs.YtnlodnkdppgddaaDoor
