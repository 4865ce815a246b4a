/-
  DERIVED. Layer 1: contracts of words.plain, words.below, words.Parse and words.Text, for every text and every number.
-/
import Derived.Test.YtnlodnkdppgddaaDoorOps
import Derived.Test.YtnlodnkdppgddaaDoorShelf
import Derived.Test.YtnlodnkdppgddaaDoorNum
import Derived.Lib.AppendIntMem
import Derived.Lib.Hide
namespace Go.Proofs.YtnlodnkdppgddaaDoor
open Go.RowKit

theorem width_pos (s : ByteArray) (pos : Nat) (h : pos < s.size) : 1 ≤ (Utf8.decode s pos).2 := by
  by_cases ha : (s[pos]'h).toNat < 128
  · rw [decode_ascii s pos h ha]
    exact Nat.le_refl _
  · exact (decode_high s pos h (by omega)).2

theorem below_iter (w : World) (s : ByteArray) (pos : Nat) : Below w.heap.size w (w.iter s pos) := (Below.refl _ _).alloc (Nat.le_refl _) _
theorem ret_bool {a b : Bool} (h : a = b) : Ending.returned (.bool a) = .returned (.bool b) := by rw [h]
theorem digB_no {c : UInt8} (h : c.toNat < 48 ∨ 57 < c.toNat) : digB c = false := by
  unfold digB
  rcases h with h | h
  · simp; omega
  · simp; omega
theorem digB_yes {c : UInt8} (h1 : 48 ≤ c.toNat) (h2 : c.toNat ≤ 57) : digB c = true := by
  unfold digB; simp; omega
theorem u8_of {c : UInt8} {n : UInt8} (h : c.toNat = n.toNat) : c = n := UInt8.toNat_inj.1 h

set_option maxHeartbeats 1000000 in
theorem plain_any (s : ByteArray) (w : World) :
    Calls Tryd.prog 39 #[.string s] w fun e w' => e = .returned (.bool (plainB s.data.toList)) ∧ Below w.heap.size w w' := by
  go_enter Tryd.func39, Tryd.ntmps39
  go_wp2
  go_loopw [3] (fun _ w' => ∃ pos : Nat, w' = w.iter s pos ∧ okTo s pos) (fun _ w' => s.size - w'.iterPos w.heap.size)
  case atStart => exact ⟨0, rfl, okTo_zero s⟩
  case round =>
    obtain ⟨pos, rfl, ho⟩ := hrel
    have HO := Lib.hid ho
    clear ho
    by_cases hp : pos < s.size
    · by_cases ha : (s[pos]'hp).toNat < 128
      · have hnx : ∀ ty, (Instr.next (.pointer (some ⟨w.heap.size, 0, none⟩)) true ty).run Tryd.prog (w.iter s pos) = _ := fun ty => run_next_ascii w s pos ty hp ha
        generalize hc : (s[pos]'hp) = c at *
        have HC := Lib.hid hc
        clear hc
        by_cases h1 : (c.toNat : Int) < 48
        · have HB := Lib.hid (plainB_bad s pos hp (by rw [HC.out]; exact digB_no (.inl (by omega))))
          go_wp2
          go_ret
          exact ⟨ret_bool HB.out.symm, below_iter _ _ _⟩
        · by_cases h2 : 57 < (c.toNat : Int)
          · have HB := Lib.hid (plainB_bad s pos hp (by rw [HC.out]; exact digB_no (.inr (by omega))))
            go_wp2
            go_ret
            exact ⟨ret_bool HB.out.symm, below_iter _ _ _⟩
          · have HD := Lib.hid (digB_yes (c := c) (by omega) (by omega))
            by_cases h3 : pos = 0
            · subst h3
              by_cases h4 : c.toNat = 48
              · have HB := Lib.hid (plainB_zero s hp (by rw [HC.out]; exact u8_of h4))
                have h5 : ((c.toNat : Int) == 48) = true := beq_iff_eq.2 (by omega)
                clear h4
                go_wp2
                go_ret
                exact ⟨ret_bool HB.out.symm, below_iter _ _ _⟩
              · have h5 : ((c.toNat : Int) == 48) = false := beq_eq_false_iff_ne.2 (by omega)
                have HS := Lib.hid (okTo_succ s 0 hp HO.out (by rw [HC.out]; exact HD.out) (fun _ e => h4 (by rw [← HC.out, e]; rfl)))
                clear h4
                go_wp2
                go_roundw
                case rel => exact ⟨1, rfl, HS.out⟩
                case measure => simp; omega
            · have h5 : ((pos : Int) == 0) = false := beq_eq_false_iff_ne.2 (by omega)
              have HS := Lib.hid (okTo_succ s pos hp HO.out (by rw [HC.out]; exact HD.out) (fun e => absurd e h3))
              clear h3
              go_wp2
              go_roundw
              case rel => exact ⟨pos + 1, rfl, HS.out⟩
              case measure => simp; omega
      · have hnx : ∀ ty, (Instr.next (.pointer (some ⟨w.heap.size, 0, none⟩)) true ty).run Tryd.prog (w.iter s pos) = _ := fun ty => run_next_any w s pos ty hp
        have hh := (decode_high s pos hp (by omega)).1
        have HB := Lib.hid (plainB_bad s pos hp (digB_no (.inr (by omega))))
        clear ha
        generalize (Utf8.decode s pos).1 = r at *
        generalize (Utf8.decode s pos).2 = q at *
        have h1 : ¬ (r : Int) < 48 := by omega
        have h2 : 57 < (r : Int) := by omega
        go_wp2
        go_ret
        exact ⟨ret_bool HB.out.symm, below_iter _ _ _⟩
    · have hnx : ∀ ty, (Instr.next (.pointer (some ⟨w.heap.size, 0, none⟩)) true ty).run Tryd.prog (w.iter s pos) = _ := fun ty => run_next_end w s pos ty hp
      have HB := Lib.hid (okTo_end s pos hp HO.out)
      go_wp2
      go_ret
      refine ⟨ret_bool ?_, below_iter _ _ _⟩
      rw [HB.out, ByteArray.toList_eq]

/-- The digit of a byte. -/
theorem valN_take_succ (s : ByteArray) (k : Nat) (h : k < s.size) : valN (s.data.toList.take (k + 1)) = valN (s.data.toList.take k) * 10 + (s[k].toNat - 48) := by
  rw [take_snoc s k h, valN_snoc]
theorem quo_ten (x n : Int) (hx : x ≤ 0) : n < x.tdiv 10 ↔ n * 10 < x := by
  have e : x.tdiv 10 = -((-x) / 10) := by
    rw [show x = -(-x) from by omega, Int.neg_tdiv, Int.tdiv_eq_ediv_of_nonneg (by omega)]
    simp
  rw [e]; omega
theorem all_at (s : ByteArray) (k : Nat) (h : k < s.size) (ha : s.data.toList.all digB = true) : 48 ≤ s[k].toNat ∧ s[k].toNat ≤ 57 := by
  have := List.all_eq_true.1 ha _ (mem_at s k h)
  unfold digB at this
  simpa using this

def belV (l : List UInt8) : Int := if valN l ≤ maxN then -(valN l : Int) else 0
def belB (l : List UInt8) : Bool := decide (valN l ≤ maxN)
def GivesNB (x : Int) (y : Bool) (w : World) (e : Ending) (w' : World) : Prop := e = .returned (.tuple #[.int .i64 x, .bool y]) ∧ Below w.heap.size w w'
theorem givesNB_of {x x' : Int} {y y' : Bool} {w w' : World} {e : Ending} (he : e = .returned (.tuple #[.int .i64 x', .bool y'])) (hx : x' = x) (hy : y' = y) (hb : Below w.heap.size w w') : GivesNB x y w e w' := by
  subst hx; subst hy; exact ⟨he, hb⟩
theorem bel_no {l : List UInt8} (h : maxN < valN l) : (0 = belV l) ∧ (false = belB l) := by
  unfold belV belB; rw [if_neg (by omega)]; simp; omega
theorem bel_yes {l : List UInt8} (h : valN l ≤ maxN) : (-(valN l : Int) = belV l) ∧ (true = belB l) := by
  unfold belV belB; rw [if_pos h]; simp [h]
/-- A round's step: what is one digit further. -/
theorem step_eq (m d : Nat) (h1 : 48 ≤ d) (h2 : d ≤ 57) (hm : m ≤ 9223372036854775808) (hf : ¬ -(m : Int) * 10 < -9223372036854775808 + ((d : Int) - 48)) :
    wrap64 (wrap64 (-(m : Int) * 10) - ((d : Int) - 48)) = -((m * 10 + (d - 48) : Nat) : Int) := by
  rw [IntWalk.wrap64_in (-(m : Int) * 10) (by omega), IntWalk.wrap64_in _ (by omega)]
  omega

set_option maxHeartbeats 1000000 in
theorem below_any (s : ByteArray) (w : World) (hall : s.data.toList.all digB = true) :
    Calls Tryd.prog 40 #[.string s] w (GivesNB (belV s.data.toList) (belB s.data.toList) w) := by
  have HA := Lib.hid hall
  clear hall
  go_enter Tryd.func40, Tryd.ntmps40
  go_wp2
  go_loopw [4] (fun n w' => ∃ pos : Nat, w' = w.iter s pos ∧ n = .int .i64 (-(valN (s.data.toList.take pos) : Int)) ∧ valN (s.data.toList.take pos) ≤ 9223372036854775808) (fun _ w' => s.size - w'.iterPos w.heap.size)
  case atStart => exact ⟨0, rfl, rfl, Nat.zero_le _⟩
  case round =>
    obtain ⟨pos, rfl, rfl, ho⟩ := hrel
    by_cases hp : pos < s.size
    · have hd := all_at s pos hp HA.out
      have hnx : ∀ ty, (Instr.next (.pointer (some ⟨w.heap.size, 0, none⟩)) true ty).run Tryd.prog (w.iter s pos) = _ := fun ty => run_next_ascii w s pos ty hp (by omega)
      have HS := Lib.hid (valN_take_succ s pos hp)
      have HL := Lib.hid (valN_take_le s.data.toList (pos + 1))
      generalize (s[pos]'hp) = c at *
      generalize hm : valN (s.data.toList.take pos) = m at *
      clear hm
      obtain ⟨d, hdd⟩ : ∃ d : Nat, c.toNat = d := ⟨_, rfl⟩
      rw [hdd] at hd hnx
      have HC := Lib.hid hdd
      clear hdd
      by_cases hf : -(m : Int) * 10 < -9223372036854775808 + ((d : Int) - 48)
      · have hq : -(m : Int) < (-9223372036854775808 + ((d : Int) - 48)).tdiv 10 := (quo_ten _ _ (by omega)).2 hf
        have HR := Lib.hid (bel_no (l := s.data.toList) (by have h1 := HS.out; have h2 := HL.out; have h3 := HC.out; unfold maxN; omega))
        clear hf
        go_wp2
        go_ret2
        exact givesNB_of rfl HR.out.1 HR.out.2 (below_iter _ _ _)
      · have hq : ¬ -(m : Int) < (-9223372036854775808 + ((d : Int) - 48)).tdiv 10 := fun h => hf ((quo_ten _ _ (by omega)).1 h)
        have HE := Lib.hid (step_eq m d hd.1 hd.2 ho hf)
        have HN : Hid (valN (List.take (pos + 1) s.data.toList) = m * 10 + (d - 48)) := by
          have h1 := HS.out; have h3 := HC.out; rw [h3] at h1; exact Lib.hid h1
        have HM : Hid (m * 10 + (d - 48) ≤ 9223372036854775808) := Lib.hid (by omega)
        clear hf
        go_wp2
        go_roundw
        case rel => exact ⟨pos + 1, rfl, by rw [HE.out, HN.out], by rw [HN.out]; exact HM.out⟩
        case measure => simp; omega
    · have hnx : ∀ ty, (Instr.next (.pointer (some ⟨w.heap.size, 0, none⟩)) true ty).run Tryd.prog (w.iter s pos) = _ := fun ty => run_next_end w s pos ty hp
      have ht := take_all s pos hp
      rw [ht] at ho ⊢
      have HR := Lib.hid (bel_yes (l := s.data.toList) ho)
      clear ht
      go_wp2
      go_ret2
      exact givesNB_of rfl HR.out.1 HR.out.2 (below_iter _ _ _)
end Go.Proofs.YtnlodnkdppgddaaDoor
