/-
  DERIVED. Layer 1: numerals and their values, there and back; nothing of the program's walks in it.
-/
import Derived.Test.YtnlodnkdppgddaaDoorNum
import Derived.Lib.ItoaMem
namespace Go.Proofs.YtnlodnkdppgddaaDoor
open Go

theorem dec_small {u : Nat} (h : u < 10) : Lib.decDigits u = [UInt8.ofNat (48 + u)] := Lib.decDigits_one h
theorem dec_step {u : Nat} (h : ¬ u < 10) : Lib.decDigits u = Lib.decDigits (u / 10) ++ [UInt8.ofNat (48 + u % 10)] := by
  rw [Lib.decDigits, dif_neg h]
theorem dig_of {k : Nat} (h : k < 10) : digB (UInt8.ofNat (48 + k)) = true ∧ (UInt8.ofNat (48 + k)).toNat = 48 + k := by
  have e : (UInt8.ofNat (48 + k)).toNat = 48 + k := by simp; omega
  refine ⟨?_, e⟩
  unfold digB; rw [e]; simp; omega

theorem head_app {l : List UInt8} (m : List UInt8) (h : l ≠ []) : (l ++ m).head? = l.head? := by
  cases l with
  | nil => exact absurd rfl h
  | cons c l => rfl
theorem all_one {c : UInt8} (h : digB c = true) : [c].all digB = true := by rw [List.all_cons, h]; rfl

theorem dec_all (u : Nat) : (Lib.decDigits u).all digB = true ∧ valN (Lib.decDigits u) = u ∧ Lib.decDigits u ≠ [] ∧ (1 ≤ u → (Lib.decDigits u).head? ≠ some 48) := by
  induction u using Nat.strongRecOn with
  | _ u ih =>
    by_cases h : u < 10
    · rw [dec_small h]
      have k := dig_of h
      refine ⟨all_one k.1, ?_, by simp, fun h1 e => ?_⟩
      · show 0 * 10 + ((UInt8.ofNat (48 + u)).toNat - 48) = u
        rw [k.2]; omega
      · simp only [List.head?_cons, Option.some.injEq] at e
        have := congrArg UInt8.toNat e
        rw [k.2] at this
        have : 48 + u = 48 := this
        omega
    · obtain ⟨i1, i2, i3, i4⟩ := ih (u / 10) (by omega)
      have k := dig_of (k := u % 10) (by omega)
      rw [dec_step h]
      refine ⟨by rw [List.all_append, i1, all_one k.1]; rfl, by rw [valN_snoc, i2, k.2]; omega, by simp, fun _ => ?_⟩
      rw [head_app _ i3]
      exact i4 (by omega)

theorem plain_snoc {l : List UInt8} {c : UInt8} (h : plainB (l ++ [c]) = true) (hl : l ≠ []) : plainB l = true ∧ digB c = true := by
  unfold plainB at h ⊢
  simp only [Bool.and_eq_true, List.all_append, List.all_cons, List.all_nil, Bool.and_true] at h
  obtain ⟨⟨_, h1, h2⟩, h3⟩ := h
  rw [head_app _ hl] at h3
  refine ⟨?_, h2⟩
  simp [h1, h3, hl]

theorem dec_of_plain : ∀ (n : Nat) (l : List UInt8), l.length = n → plainB l = true → Lib.decDigits (valN l) = l := by
  intro n
  induction n with
  | zero =>
    intro l hl h
    obtain rfl : l = [] := List.length_eq_zero_iff.1 hl
    simp [plainB] at h
  | succ n ih =>
    intro l hl h
    obtain ⟨m, c, rfl⟩ : ∃ m c, l = m ++ [c] := by
      have hne : l ≠ [] := fun e => by rw [e] at hl; simp at hl
      exact ⟨l.dropLast, l.getLast hne, (List.dropLast_concat_getLast hne).symm⟩
    by_cases hm : m = []
    · subst hm
      unfold plainB digB at h
      simp at h
      have e : valN ([] ++ [c]) = c.toNat - 48 := by show 0 * 10 + (c.toNat - 48) = _; omega
      rw [e, dec_small (by omega)]
      show [_] = [c]
      congr 1
      apply UInt8.toNat_inj.1
      rw [(dig_of (k := c.toNat - 48) (by omega)).2]; omega
    · obtain ⟨hp, hd⟩ := plain_snoc h hm
      have hi := ih m (by simp at hl; omega) hp
      have h1 : 1 ≤ valN m := by
        rcases Nat.eq_zero_or_pos (valN m) with h0 | h0
        · rw [h0, dec_small (by omega)] at hi
          rw [← hi] at hp
          exact absurd hp (by decide)
        · exact h0
      have hd2 : 48 ≤ c.toNat ∧ c.toNat ≤ 57 := by unfold digB at hd; simpa using hd
      rw [valN_snoc, dec_step (by omega), show (valN m * 10 + (c.toNat - 48)) / 10 = valN m from by omega, hi, show (valN m * 10 + (c.toNat - 48)) % 10 = c.toNat - 48 from by omega]
      congr 2
      apply UInt8.toNat_inj.1
      rw [(dig_of (k := c.toNat - 48) (by omega)).2]; omega

theorem dec_plain {u : Nat} (h : 1 ≤ u) : plainB (Lib.decDigits u) = true := by
  obtain ⟨h1, _, h3, h4⟩ := dec_all u
  unfold plainB
  simp [h1, h3, h4 h]
theorem plain_val {l : List UInt8} (h : plainB l = true) : 1 ≤ valN l := by
  rcases Nat.eq_zero_or_pos (valN l) with h0 | h0
  · have hi := dec_of_plain _ l rfl h
    rw [h0, dec_small (by omega)] at hi
    rw [← hi] at h
    exact absurd h (by decide)
  · exact h0
theorem plain_head {l : List UInt8} (h : plainB l = true) : l.head? ≠ some 45 := by
  cases l with
  | nil => simp
  | cons c l =>
    intro e
    simp only [List.head?_cons, Option.some.injEq] at e
    subst e
    unfold plainB digB at h
    simp at h

/-- EACH NUMBER IS ITS TEXT's. -/
theorem parse_itoa (n : Int) (h0 : -9223372036854775808 ≤ n) (h1 : n ≤ 9223372036854775807) : parseV (Lib.itoa n) = (n, 0) := by
  by_cases hz : n = 0
  · subst hz; decide +kernel
  · by_cases hn : n < 0
    · obtain ⟨u, rfl⟩ : ∃ u : Nat, n = -(u : Int) := ⟨n.natAbs, by omega⟩
      rw [Lib.itoa_neg u (by omega)]
      have hp := dec_plain (u := u) (by omega)
      have hv := (dec_all u).2.1
      unfold parseV
      rw [if_neg (by simp)]
      simp only [List.head?_cons, beq_self_eq_true, if_true, List.tail_cons, hp, hv]
      rw [if_neg (by simp), if_neg (by unfold maxN; simp; omega)]
    · obtain ⟨u, rfl⟩ : ∃ u : Nat, n = (u : Int) := ⟨n.toNat, by omega⟩
      rw [Lib.itoa_nonneg]
      have hp := dec_plain (u := u) (by omega)
      have hv := (dec_all u).2.1
      have hh : ((Lib.decDigits u).head? == some 45) = false := by simpa using plain_head hp
      have hne : Lib.decDigits u ≠ [48] := fun e => by rw [e] at hp; exact absurd hp (by decide)
      unfold parseV
      rw [if_neg hne]
      simp only [hh]
      simp only [Bool.false_eq_true, if_false, hp, hv]
      rw [if_neg (by simp), if_neg (by unfold maxN; simp; omega)]

/-- EACH TEXT THAT HAS A NUMBER IS THAT NUMBER's; beside an error the number is 0. -/
theorem parse_back (l : List UInt8) : ((parseV l).2 = 0 ∧ Lib.itoa (parseV l).1 = l ∧ -9223372036854775808 ≤ (parseV l).1 ∧ (parseV l).1 ≤ 9223372036854775807) ∨ ((parseV l).2 ≠ 0 ∧ (parseV l).1 = 0) := by
  unfold parseV
  by_cases hz : l = [48]
  · rw [if_pos hz]; left; subst hz; exact ⟨rfl, by decide +kernel, by decide, by decide⟩
  · rw [if_neg hz]
    cases hm : l.head? == some 45 with
    | true =>
      simp only [if_true]
      by_cases hp : plainB l.tail = true
      · rw [if_neg (by simp [hp])]
        by_cases hv : maxN < valN l.tail
        · rw [if_pos (.inl hv)]; right; simp
        · rw [if_neg (by simp; omega)]
          left
          have h1 := plain_val hp
          have hc : l = 45 :: l.tail := by
            cases l with
            | nil => simp at hm
            | cons c l => simp at hm; subst hm; rfl
          refine ⟨rfl, ?_, ?_, ?_⟩
          · show Lib.itoa (-(valN l.tail : Int)) = l
            rw [Lib.itoa_neg _ h1, dec_of_plain _ l.tail rfl hp]; exact hc.symm
          · show _ ≤ -(valN l.tail : Int)
            unfold maxN at hv; omega
          · show -(valN l.tail : Int) ≤ _
            omega
      · rw [if_pos (by simpa using hp)]; right; simp
    | false =>
      simp only [Bool.false_eq_true, if_false]
      by_cases hp : plainB l = true
      · rw [if_neg (by simp [hp])]
        by_cases hv : maxN < valN l ∨ valN l = maxN
        · rw [if_pos (by simpa using hv)]; right; simp
        · rw [if_neg (by simpa using hv)]
          left
          refine ⟨rfl, ?_, ?_, ?_⟩
          · show Lib.itoa (valN l : Int) = l
            rw [Lib.itoa_nonneg, dec_of_plain _ l rfl hp]
          · show _ ≤ (valN l : Int)
            omega
          · show (valN l : Int) ≤ _
            unfold maxN at hv; omega
      · rw [if_pos (by simpa using hp)]; right; simp
end Go.Proofs.YtnlodnkdppgddaaDoor
