/-
  DERIVED. Layer 3: the walk of the law ExprParts: for all nodes and every number it is true.
-/
import Derived.Test.YtcmbcbdijmknnaaDoorCut
namespace Go.Proofs.YtcmbcbdijmknnaaDoor
open Go.RowKit

/-- The part that begins at a node. -/
theorem sub_at : ∀ (x : Ex), x.ok → ∀ k, k < x.size → ∃ (y : Ex) (r : List Nod), y.ok ∧ x.flat.drop k = y.flat ++ r ∧ (k = 0 → y = x) ∧ (0 < k → y.deep < x.deep) ∧ (∀ a ∈ y.flat, a ∈ x.flat) := by
  intro x
  induction x with
  | leaf a =>
    intro ho k hk
    simp only [Ex.size] at hk
    obtain rfl : k = 0 := by omega
    exact ⟨.leaf a, [], ho, by simp, fun _ => rfl, fun h => absurd h (by omega), fun _ h => h⟩
  | un a x ih =>
    intro ho k hk
    cases k with
    | zero => exact ⟨.un a x, [], ho, by simp, fun _ => rfl, fun h => absurd h (by omega), fun _ h => h⟩
    | succ k =>
      simp only [Ex.size] at hk
      obtain ⟨y, r, h1, h2, h3, h4, h5⟩ := ih ho.2 k (by omega)
      refine ⟨y, r, h1, by simpa [Ex.flat] using h2, fun h => absurd h (by omega), fun _ => ?_, fun b hb => by simp [Ex.flat, h5 b hb]⟩
      show y.deep < x.deep + 1
      by_cases hk0 : k = 0
      · rw [h3 hk0]; omega
      · have := h4 (by omega); omega
  | bin a x z ih1 ih2 =>
    intro ho k hk
    cases k with
    | zero => exact ⟨.bin a x z, [], ho, by simp, fun _ => rfl, fun h => absurd h (by omega), fun _ h => h⟩
    | succ k =>
      simp only [Ex.size] at hk
      by_cases hx : k < x.size
      · obtain ⟨y, r, h1, h2, h3, h4, h5⟩ := ih1 ho.2.1 k hx
        refine ⟨y, r ++ z.flat, h1, ?_, fun h => absurd h (by omega), fun _ => ?_, fun b hb => by simp [Ex.flat, h5 b hb]⟩
        · show (x.flat ++ z.flat).drop k = _
          rw [List.drop_append_of_le_length (by rw [flat_len]; omega), h2, List.append_assoc]
        · show y.deep < max x.deep z.deep + 1
          by_cases hk0 : k = 0
          · rw [h3 hk0]; omega
          · have := h4 (by omega); omega
      · obtain ⟨y, r, h1, h2, h3, h4, h5⟩ := ih2 ho.2.2 (k - x.size) (by omega)
        refine ⟨y, r, h1, ?_, fun h => absurd h (by omega), fun _ => ?_, fun b hb => by simp [Ex.flat, h5 b hb]⟩
        · show (x.flat ++ z.flat).drop k = _
          rw [List.drop_append, List.drop_eq_nil_of_le (by rw [flat_len]; omega), List.nil_append, flat_len, h2]
        · show y.deep < max x.deep z.deep + 1
          by_cases hk0 : k - x.size = 0
          · rw [h3 hk0]; omega
          · have := h4 (by omega); omega
/-- What a part of a right expression is. -/
theorem part_right {L : List Nod} (h : rightL L = true) {k : Nat} (hk : k < L.length) : ∃ e : Nat, endV L k = e ∧ k < e ∧ e ≤ L.length ∧ rightL ((L.take e).drop k) = true ∧ (k = 0 → depthL ((L.take e).drop k) = depthL L) ∧ (0 < k → depthL ((L.take e).drop k) < depthL L) := by
  obtain ⟨x, hw, ho, rfl, h40, hall, hd⟩ := right_some h
  rw [flat_len] at hk h40
  obtain ⟨y, r, h1, h2, h3, h4, h5⟩ := sub_at x ho k hk
  have hl := congrArg List.length h2
  rw [List.length_drop, List.length_append, flat_len, flat_len] at hl
  have hp := size_pos y
  have e1 : (x.flat.take (k + y.size)).drop k = y.flat := by
    rw [List.drop_take, h2, show k + y.size - k = y.flat.length from by rw [flat_len]; omega, List.take_left]
  have hyd : y.deep ≤ x.deep := by
    by_cases hk0 : k = 0
    · rw [h3 hk0]; exact Nat.le_refl _
    · have := h4 (by omega); omega
  have hr : rightL y.flat = true := by
    rw [right_flat h1]
    have : y.flat.all nodOK = true := List.all_eq_true.2 fun a ha => List.all_eq_true.1 hall a (h5 a ha)
    rw [this]
    simp; omega
  have d1 : depthL y.flat = y.deep := by unfold depthL; rw [whole_flat h1]; simp [hr]
  have d2 : depthL x.flat = x.deep := by unfold depthL; rw [hw]; simp [h]
  refine ⟨k + y.size, ?_, by omega, by rw [flat_len]; omega, by rw [e1]; exact hr, fun hk0 => ?_, fun hk0 => ?_⟩
  · rw [endV_nat, h2, endC_flat y r h1]
  · rw [e1, d1, d2, h3 hk0]
  · rw [e1, d1, d2]; exact h4 hk0
theorem and_ffff (n : Int) : 0 ≤ bits .and .i64 n 65535 ∧ bits .and .i64 n 65535 ≤ 65535 := by
  have e : bits .and .i64 n 65535 = IntKind.i64.wrap ((BitVec.ofInt 64 n &&& BitVec.ofInt 64 65535).toNat : Int) := rfl
  have h : (BitVec.ofInt 64 n &&& BitVec.ofInt 64 65535).toNat ≤ 65535 := by
    rw [BitVec.toNat_and]
    exact Nat.le_trans Nat.and_le_right (by decide)
  rw [e, IntKind.wrap_i64]
  omega
theorem read_form {w : World} {B : Nat} {v : Value} {L : List Nod} (h : OwnN w B v L) (hn : 0 < L.length) : ∃ g cap, v = .slice (some ⟨g, 0, none⟩) L.length cap ∧ L.length ≤ cap ∧ cap ≤ 9223372036854775807 := by
  obtain ⟨g, cap, rfl⟩ := ownN_form h hn
  have := h.read.len
  exact ⟨g, cap, rfl, this.2.1, by have h2 := this.2.2; unfold maxLen at h2; omega⟩

set_option maxRecDepth 100000 in
set_option maxHeartbeats 8000000 in
theorem parts_any (A : Option Addr) (n c : Nat) (R : Nat → RawN) (i : Int) (w : World) (hA : ArgN w A n R) (ht : Tabs w) : Calls Tryd.prog 8 #[.slice A n c, .int .i64 i] w (IsTrue w) := by
  have HA := Lib.hid hA
  have HT := Lib.hid ht
  have hq := and_ffff i
  have hll := rawN_len R (min n 60)
  have HSM := Lib.hid (rawN_small R (min n 60))
  clear hA ht
  go_enter Tryd.func8, Tryd.ntmps8
  go_wp2_with fail
  refine (cut_any A n c R _ HA.out).mono ?_
  generalize rawN R (min n 60) = L at *
  have hl60 : L.length ≤ 60 := by omega
  clear hll
  rintro e w1 ⟨v, rfl, ho, hb⟩
  have HO := Lib.hid ho
  have HB := Lib.hid hb
  clear ho hb
  go_wp2_with fail
  refine (right_any v L _ HO.out.read (by omega) HSM.out).mono ?_
  cases hr : rightL L with
  | false =>
    rintro e w2 ⟨rfl, hb⟩
    replace HB := Lib.hid (below_then HB.out hb)
    clear hb
    go_wp2_with fail
    refine (fixed_any _ (HT.out.on HB.out)).mono ?_
    rintro e w3 ⟨rfl, hb⟩
    go_wp2_with fail
    go_ret
    exact ⟨rfl, below_then HB.out hb⟩
  | true =>
    rintro e w2 ⟨rfl, hb⟩
    have hpos : 0 < L.length := by
      obtain ⟨x, _, _, rfl, _⟩ := right_some hr
      exact List.length_pos_iff.2 (flat_ne x)
    obtain ⟨g, cap, rfl, hc1, hc2⟩ := read_form HO.out hpos
    replace HO := Lib.hid (HO.out.on hb)
    replace HB := Lib.hid (below_then HB.out hb)
    have HR := Lib.hid hr
    clear hb hr
    generalize hN : L.length = N at *
    have HN := Lib.hid hN
    clear hN
    go_wp2_with fail
    generalize bits BinOp.and IntKind.i64 i 65535 = q at *
    have hz0 : 0 ≤ q % (N : Int) := Int.emod_nonneg _ (by omega)
    have hz1 : q % (N : Int) < (N : Int) := Int.emod_lt_of_pos _ (by omega)
    generalize q % (N : Int) = z at *
    obtain ⟨k, rfl⟩ : ∃ k : Nat, z = k := ⟨z.toNat, by omega⟩
    have hkN : k < N := by omega
    obtain ⟨e, he, hke, heN, hrp, hd0, hd1⟩ := part_right HR.out (k := k) (by rw [HN.out]; exact hkN)
    rw [HN.out] at heN
    have HE := Lib.hid he
    have HRP := Lib.hid hrp
    have HSP : Hid (SmallN ((L.take e).drop k)) := Lib.hid (fun a ha => HSM.out a (List.mem_of_mem_take (List.mem_of_mem_drop ha)))
    have hpart := ReadN.part (k := k) (to := e) HO.out.read (by omega) heN
    have HPT0 := Lib.hid hpart
    clear he hrp hpart hz0 hz1 hq
    refine (end_any _ L k _ HO.out.read (by rw [HN.out]; omega)).mono ?_
    rw [HE.out]
    rintro e1 w' ⟨rfl, rfl⟩
    have hi1 : ¬ (e : Int) ≤ (k : Int) := by omega
    have hi2 : ¬ (N : Int) < (e : Int) := by omega
    have hi3 : (0 : Int) ≤ (e : Int) := by omega
    have hi4 : (e : Int) ≤ (cap : Int) := by omega
    have hi5 : (k : Int) ≤ (e : Int) := by omega
    have hcp : ¬ cap = k := by omega
    have b1 : decide (e ≤ k) = false := by simp; omega
    have b2 : decide (N < e) = false := by simp; omega
    by_cases hk0 : k = 0
    · subst hk0
      have HD := Lib.hid (hd0 rfl)
      have HPT : Hid (ReadN w2 (.slice (some ⟨g, 0, none⟩) e cap) ((L.take e).drop 0)) := Lib.hid (by have h1 := HPT0.out; simp only [Nat.zero_mul, Nat.add_zero, Nat.sub_zero] at h1; exact h1)
      clear hd0 hd1 HPT0
      go_wp2_with fail
      refine (right_any _ ((L.take e).drop 0) _ HPT.out (by rw [List.length_drop, List.length_take]; omega) HSP.out).mono ?_
      rw [HRP.out]
      rintro e1 w3 ⟨rfl, hb⟩
      have HO3 := Lib.hid (HO.out.on hb)
      have HPT3 := Lib.hid (HPT.out.on hb)
      have HB3 := Lib.hid (below_then HB.out hb)
      clear hb
      go_wp2_with fail
      refine (depth_any _ ((L.take e).drop 0) _ HPT3.out (by rw [List.length_drop, List.length_take]; omega) HSP.out).mono ?_
      generalize hd1 : depthL ((L.take e).drop 0) = d1 at *
      rintro e1 w4 ⟨rfl, hb⟩
      have HO4 := Lib.hid (HO3.out.on hb)
      have HB4 := Lib.hid (below_then HB3.out hb)
      clear hb hd1
      go_wp2_with fail
      refine (depth_any _ L _ HO4.out.read (by rw [HN.out]; omega) HSM.out).mono ?_
      generalize hd2 : depthL L = d2 at *
      rintro e1 w5 ⟨rfl, hb⟩
      have HB5 := Lib.hid (below_then HB4.out hb)
      clear hb hd2
      have hdec : ((d1 : Int) == (d2 : Int)) = true := by rw [HD.out]; simp
      go_wp2_with fail
      refine (fixed_any _ (HT.out.on HB5.out)).mono ?_
      rintro e1 w6 ⟨rfl, hb⟩
      go_wp2_with fail
      go_ret
      exact ⟨rfl, below_then HB5.out hb⟩
    · have HD := Lib.hid (hd1 (by omega))
      have HPT : Hid (ReadN w2 (.slice (some ⟨g, k * 4, none⟩) (e - k) (cap - k)) ((L.take e).drop k)) := Lib.hid (by have h1 := HPT0.out; rw [Nat.zero_add] at h1; exact h1)
      have hk1 : ((k : Int) == 0) = false := beq_eq_false_iff_ne.2 (by omega)
      have hk2 : (0 : Int) < (k : Int) := by omega
      clear hd0 hd1 HPT0 hk0
      go_wp2_with fail
      refine (right_any _ ((L.take e).drop k) _ HPT.out (by rw [List.length_drop, List.length_take]; omega) HSP.out).mono ?_
      rw [HRP.out]
      rintro e1 w3 ⟨rfl, hb⟩
      have HO3 := Lib.hid (HO.out.on hb)
      have HPT3 := Lib.hid (HPT.out.on hb)
      have HB3 := Lib.hid (below_then HB.out hb)
      clear hb
      go_wp2_with fail
      refine (depth_any _ ((L.take e).drop k) _ HPT3.out (by rw [List.length_drop, List.length_take]; omega) HSP.out).mono ?_
      generalize hd1 : depthL ((L.take e).drop k) = d1 at *
      rintro e1 w4 ⟨rfl, hb⟩
      have HO4 := Lib.hid (HO3.out.on hb)
      have HB4 := Lib.hid (below_then HB3.out hb)
      clear hb hd1
      go_wp2_with fail
      refine (depth_any _ L _ HO4.out.read (by rw [HN.out]; omega) HSM.out).mono ?_
      generalize hd2 : depthL L = d2 at *
      rintro e1 w5 ⟨rfl, hb⟩
      have HB5 := Lib.hid (below_then HB4.out hb)
      clear hb hd2
      have hdec : (d1 : Int) < (d2 : Int) := by have := HD.out; omega
      go_wp2_with fail
      refine (fixed_any _ (HT.out.on HB5.out)).mono ?_
      rintro e1 w6 ⟨rfl, hb⟩
      go_wp2_with fail
      go_ret
      exact ⟨rfl, below_then HB5.out hb⟩
end Go.Proofs.YtcmbcbdijmknnaaDoor
