/-
  DERIVED. Layer 3: the contract of scan.row.
-/
import Derived.Test.YtcmbcbdijmknnaaDoorByte
namespace Go.Proofs.YtcmbcbdijmknnaaDoor
open Go.RowKit

theorem len_data (s : ByteArray) : s.data.toList.length = s.size := rfl
theorem take_snoc (s : ByteArray) (k : Nat) (h : k < s.size) : s.data.toList.take (k + 1) = s.data.toList.take k ++ [s[k]] := by
  rw [List.take_succ_eq_append_getElem (by simpa using h)]; rfl
theorem take_all (s : ByteArray) (k : Nat) (h : ¬ k < s.size) : s.data.toList.take k = s.data.toList :=
  List.take_of_length_le (by simp; show s.size ≤ k; omega)
theorem drop_at (s : ByteArray) (k : Nat) (h : k < s.size) : s.data.toList.drop k = s[k] :: s.data.toList.drop (k + 1) := by
  rw [List.drop_eq_getElem_cons (by rw [len_data]; exact h)]; rfl
theorem bytes_ext {a b : ByteArray} (h : a.data.toList = b.data.toList) : a = b := by
  cases a with | mk a => cases b with | mk b => cases a; cases b; simp at h; subst h; rfl
theorem extract_take (s : ByteArray) (k : Nat) : s.extract 0 k = ⟨(s.data.toList.take k).toArray⟩ := by
  apply bytes_ext
  simp [ByteArray.data_extract, List.extract_eq_take_drop]
theorem extract_drop (s : ByteArray) (k : Nat) : (s.extract k s.size).data.toList = s.data.toList.drop k := by
  rw [ByteArray.data_extract, Array.toList_extract, List.extract_eq_take_drop, List.take_of_length_le (by simp)]
theorem while_stop (p : UInt8 → Bool) (s : ByteArray) (k : Nat) (h : k < s.size) (ha : (s.data.toList.take k).all p = true) (hp : p s[k] = false) : s.data.toList.takeWhile p = s.data.toList.take k := by
  have e : s.data.toList = s.data.toList.take k ++ s[k] :: s.data.toList.drop (k + 1) := by rw [← drop_at s k h, List.take_append_drop]
  generalize s.data.toList.take k = a at *
  generalize s.data.toList.drop (k + 1) = b at *
  rw [e, List.takeWhile_append_of_pos (by simpa using ha), List.takeWhile_cons, if_neg (by rw [hp]; simp)]; simp
theorem while_all (p : UInt8 → Bool) (s : ByteArray) (k : Nat) (h : ¬ k < s.size) (ha : (s.data.toList.take k).all p = true) : s.data.toList.takeWhile p = s.data.toList.take k := by
  rw [take_all s k h] at *
  generalize s.data.toList = l at *
  have := List.takeWhile_append_of_pos (l₁ := l) (l₂ := []) (p := p) (by simpa using ha)
  simpa using this
theorem all_snoc (p : UInt8 → Bool) (s : ByteArray) (k : Nat) (h : k < s.size) (ha : (s.data.toList.take k).all p = true) (hp : p s[k] = true) : (s.data.toList.take (k + 1)).all p = true := by
  rw [take_snoc s k h, List.all_append, ha]; simp [hp]
def GivesS (l : List UInt8) (w : World) (e : Ending) (w' : World) : Prop := e = .returned (.string ⟨l.toArray⟩) ∧ w = w'
theorem givesS_of {l l' : List UInt8} {w : World} {e : Ending} {u : ByteArray} (he : e = .returned (.string u)) (h : u = ⟨l'.toArray⟩) (h2 : l = l') : GivesS l w e w := by
  subst h; subst h2; exact ⟨he, rfl⟩

set_option maxHeartbeats 1000000 in
theorem row_inWord (s : ByteArray) (w : World) (hs : s.size ≤ 100000) : Calls Tryd.prog 73 #[.string s, .func (.func 74) #[] #[]] w (GivesS (s.data.toList.takeWhile wrdB) w) := by
  go_enter Tryd.func73, Tryd.ntmps73
  go_wp2_with fail
  go_loop [5] (fun i => ∃ k : Nat, k ≤ s.size ∧ i = .int .i64 k ∧ (s.data.toList.take k).all wrdB = true) (fun i => s.size - (intOf i).toNat)
  case atStart => exact ⟨0, Nat.zero_le _, rfl, rfl⟩
  case round =>
    obtain ⟨k, hk, rfl, ha⟩ := hrel
    have HA := Lib.hid ha
    clear ha
    by_cases hlt : k < s.size
    · cases hp : wrdB (s[k]'hlt) with
      | true =>
        have HS := Lib.hid (all_snoc wrdB s k hlt HA.out hp)
        have HP := Lib.hid hp
        clear hp
        go_wp2_with fail
        refine (inWord_any (s[k]'hlt) _).mono ?_
        rw [HP.out]
        rintro e w' ⟨rfl, rfl⟩
        go_wp2_with fail
        go_round
        case rel => exact ⟨k + 1, by omega, by go_num, HS.out⟩
        case measure => simp [intOf]; omega
      | false =>
        have HS := Lib.hid (while_stop wrdB s k hlt HA.out hp)
        have HP := Lib.hid hp
        clear hp
        go_wp2_with fail
        refine (inWord_any (s[k]'hlt) _).mono ?_
        rw [HP.out]
        rintro e w' ⟨rfl, rfl⟩
        go_wp2_with fail
        go_ret
        exact givesS_of rfl (extract_take s k) HS.out
    · have HS := Lib.hid (while_all wrdB s k hlt HA.out)
      go_wp2_with fail
      go_ret
      exact givesS_of rfl (extract_take s k) HS.out
end Go.Proofs.YtcmbcbdijmknnaaDoor
