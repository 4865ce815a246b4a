/-
  DERIVED. Layer 3: contracts of parts of the reader that the laws take tokens from.
-/
import Derived.Test.YtcmbcbdijmknnaaDoorBase
namespace Go.Proofs.YtcmbcbdijmknnaaDoor
open Go.RowKit

theorem prefix_take (t D : List UInt8) : t.isPrefixOf D = (decide (t.length ≤ D.length) && (D.take t.length == t)) := by
  rw [Bool.eq_iff_iff]
  simp only [List.isPrefixOf_iff_prefix, Bool.and_eq_true, decide_eq_true_eq, beq_iff_eq]
  constructor
  · intro h; exact ⟨h.length_le, (List.prefix_iff_eq_take.1 h).symm⟩
  · intro h; exact List.prefix_iff_eq_take.2 h.2.symm
theorem extract_mid (s : ByteArray) (a n : Nat) : (s.extract a (a + n)).data.toList = (s.data.toList.drop a).take n := by
  rw [ByteArray.data_extract, Array.toList_extract, List.extract_eq_take_drop, Nat.add_sub_cancel_left]

set_option maxHeartbeats 1000000 in
theorem begins_any (s t : ByteArray) (k : Nat) (w : World) (hs : s.size ≤ 100000) (hk : k ≤ s.size) (ht : t.size ≤ 100) :
    Calls Tryd.prog 65 #[.string s, .int .i64 k, .string t] w (Tells (t.data.toList.isPrefixOf (s.data.toList.drop k)) w) := by
  have hP := prefix_take t.data.toList (s.data.toList.drop k)
  rw [List.length_drop, len_data, len_data, ← extract_mid] at hP
  by_cases h : k + t.size ≤ s.size
  · rw [show decide (t.size ≤ s.size - k) = true from by simp; omega, Bool.true_and] at hP
    have HP : Hid (t.data.toList.isPrefixOf (s.data.toList.drop k) = ((s.extract k (k + t.size)).toList == t.toList)) := Lib.hid (by rw [hP, ByteArray.toList_eq, ByteArray.toList_eq])
    have h1 : (k : Int) + (t.size : Int) ≤ (s.size : Int) := by omega
    clear hP
    go_enter Tryd.func65, Tryd.ntmps65
    go_wp2_with fail
    go_ret
    exact ⟨ret_bool HP.out.symm, rfl⟩
  · rw [show decide (t.size ≤ s.size - k) = false from by simp; omega, Bool.false_and] at hP
    have HP := Lib.hid hP
    have h1 : ¬ (k : Int) + (t.size : Int) ≤ (s.size : Int) := by omega
    clear hP
    go_enter Tryd.func65, Tryd.ntmps65
    go_wp2_with fail
    go_ret
    exact ⟨ret_bool HP.out.symm, rfl⟩

/-- How long the row is with which a text begins. -/
theorem while_len (p : UInt8 → Bool) (s : ByteArray) (k j : Nat) (hk : k ≤ j) (hj : j ≤ s.size) (ha : ∀ i, k ≤ i → (hi : i < j) → p (s[i]'(by omega)) = true) (he : (h : j < s.size) → p (s[j]'h) = false) :
    ((s.data.toList.drop k).takeWhile p).length = j - k := by
  obtain ⟨m, rfl⟩ : ∃ m, j = k + m := ⟨j - k, by omega⟩
  induction m generalizing k with
  | zero =>
    by_cases h : k < s.size
    · have h2 : p s[k] = false := he h
      rw [drop_at s k h, List.takeWhile_cons, if_neg (by rw [h2]; simp)]; simp
    · rw [List.drop_eq_nil_of_le (by rw [len_data]; omega)]; simp
  | succ m ih =>
    have h : k < s.size := by omega
    rw [drop_at s k h, List.takeWhile_cons, if_pos (ha k (Nat.le_refl _) (by omega)), List.length_cons]
    have := ih (k + 1) (by omega) (by omega) (fun i h1 h2 => ha i (by omega) (by omega)) (fun h => by
      have e : k + 1 + m = k + (m + 1) := by omega
      have := he (by omega)
      simp only [e]; exact this)
    rw [this]; omega
/-- What the place behind blanks and remarks is. -/
def PastIs (s : ByteArray) (a : Nat) (w : World) (e : Ending) (w' : World) : Prop :=
  ∃ k : Nat, e = .returned (.int .i64 k) ∧ w = w' ∧ a ≤ k ∧ k ≤ s.size ∧ scanL (s.data.toList.drop k) k = scanL (s.data.toList.drop a) a ∧ ((h : k < s.size) → blkB (s[k]'h) = false ∧ isRem (s.data.toList.drop k) = false)
theorem blk_not {c : UInt8} (h : blkB c = false) : ((c.toNat : Int) == 32) = false ∧ ((c.toNat : Int) == 9) = false ∧ ((c.toNat : Int) == 10) = false ∧ ((c.toNat : Int) == 13) = false := by
  unfold blkB at h
  simp at h
  simp only [beq_eq_false_iff_ne]
  omega
theorem blk_is {c : UInt8} (h : blkB c = true) : ((c.toNat : Int) == 32) = true ∨ (((c.toNat : Int) == 32) = false ∧ ((c.toNat : Int) == 9) = true) ∨ (((c.toNat : Int) == 32) = false ∧ ((c.toNat : Int) == 9) = false ∧ ((c.toNat : Int) == 10) = true) ∨
    (((c.toNat : Int) == 32) = false ∧ ((c.toNat : Int) == 9) = false ∧ ((c.toNat : Int) == 10) = false ∧ ((c.toNat : Int) == 13) = true) := by
  unfold blkB at h
  simp at h
  simp only [beq_eq_false_iff_ne, beq_iff_eq]
  omega

theorem rem_step {l : List UInt8} {k j : Nat} {c : UInt8} {R : Found} (hd : l.drop k = c :: l.drop (k + 1)) (hb : blkB c = false) (hr : isRem (l.drop k) = true) (hl : ((l.drop k).takeWhile linB).length = j - k) (hkj : k ≤ j) (hI : scanL (l.drop k) k = R) : scanL (l.drop j) j = R := by
  have e : j = k + ((l.drop k).takeWhile linB).length := by omega
  rw [← hI]
  conv => lhs; rw [e, ← List.drop_drop]
  rw [hd] at hr ⊢
  rw [scanL_rem _ _ hb hr]
theorem rem_far {l : List UInt8} {k j : Nat} {c : UInt8} (hd : l.drop k = c :: l.drop (k + 1)) (hr : isRem (l.drop k) = true) (hl : ((l.drop k).takeWhile linB).length = j - k) : k < j := by
  rw [hd] at hr hl
  have := rem_len hr
  omega

set_option maxRecDepth 100000 in
set_option maxHeartbeats 4000000 in
theorem past_any (s : ByteArray) (a : Nat) (w : World) (hs : s.size ≤ 100000) (ha : a ≤ s.size) : Calls Tryd.prog 46 #[.string s, .int .i64 a] w (PastIs s a w) := by
  go_enter Tryd.func46, Tryd.ntmps46
  go_wp2_with fail
  go_loop [1] (fun i => ∃ k : Nat, a ≤ k ∧ k ≤ s.size ∧ i = .int .i64 k ∧ scanL (s.data.toList.drop k) k = scanL (s.data.toList.drop a) a) (fun i => s.size - (intOf i).toNat)
  case atStart => exact ⟨a, Nat.le_refl _, ha, rfl, rfl⟩
  case round =>
    obtain ⟨k, hak, hk, rfl, hI⟩ := hrel
    have HI := Lib.hid hI
    clear hI
    by_cases hlt : k < s.size
    · have HD := Lib.hid (drop_at s k hlt)
      cases hb : blkB (s[k]'hlt) with
      | true =>
        have HS : Hid (scanL (s.data.toList.drop (k + 1)) (k + 1) = scanL (s.data.toList.drop a) a) := Lib.hid (by rw [← HI.out, HD.out, scanL_blank _ _ hb])
        have hcs := blk_is hb
        clear hb
        rcases hcs with h | ⟨h, h2⟩ | ⟨h, h2, h3⟩ | ⟨h, h2, h3, h4⟩
        all_goals
          go_wp2_with fail
          go_round
          case rel => exact ⟨k + 1, by omega, by omega, by go_num, HS.out⟩
          case measure => simp [intOf]; omega
      | false =>
        obtain ⟨n1, n2, n3, n4⟩ := blk_not hb
        have Hb := Lib.hid hb
        cases hr : isRem (s.data.toList.drop k) with
        | false =>
          have Hr := Lib.hid hr
          clear hb hr
          go_wp2_with fail
          refine (begins_any s ⟨#[47, 47]⟩ k _ hs hk (by decide)).mono ?_
          rw [show (ByteArray.mk #[47, 47]).data.toList.isPrefixOf (s.data.toList.drop k) = false from Hr.out]
          rintro e w' ⟨rfl, rfl⟩
          go_wp2_with fail
          go_ret
          exact ⟨k, rfl, rfl, hak, hk, HI.out, fun _ => ⟨Hb.out, Hr.out⟩⟩
        | true =>
          have Hr := Lib.hid hr
          clear hb hr
          go_wp2_with fail
          refine (begins_any s ⟨#[47, 47]⟩ k _ hs hk (by decide)).mono ?_
          rw [show (ByteArray.mk #[47, 47]).data.toList.isPrefixOf (s.data.toList.drop k) = true from Hr.out]
          rintro e w' ⟨rfl, rfl⟩
          go_wp2_with fail
          go_loop [1] (fun i => ∃ j : Nat, k ≤ j ∧ j ≤ s.size ∧ i = .int .i64 j ∧ ∀ i, k ≤ i → (hi : i < s.size) → i < j → linB (s[i]'hi) = true) (fun i => s.size - (intOf i).toNat)
          case atStart => exact ⟨k, Nat.le_refl _, hk, rfl, fun i h1 _ h2 => absurd h2 (by omega)⟩
          case round =>
            obtain ⟨j, hkj, hj, rfl, hall⟩ := hrel
            have HA := Lib.hid hall
            clear hall
            by_cases hjl : j < s.size
            · by_cases hten : (s[j]'hjl).toNat = 10
              · have hne : (((s[j]'hjl).toNat : Int) != 10) = false := by simp [hten]
                have HL := Lib.hid (while_len linB s k j hkj hj (fun i h1 h2 => HA.out i h1 (by omega) h2) (fun h => by unfold linB; simp [hten]))
                clear hten
                go_wp2_with fail
                go_round
                case rel => exact ⟨j, by omega, hj, rfl, rem_step HD.out Hb.out Hr.out HL.out hkj HI.out⟩
                case measure => have := rem_far HD.out Hr.out HL.out; simp [intOf]; omega
              · have hne : (((s[j]'hjl).toNat : Int) != 10) = true := by simp; omega
                have HS : Hid (∀ i, k ≤ i → (hi : i < s.size) → i < j + 1 → linB (s[i]'hi) = true) := Lib.hid (fun i h1 hi h2 => by
                  by_cases e : i = j
                  · subst e; unfold linB; simp [hten]
                  · exact HA.out i h1 hi (by omega))
                clear hten
                go_wp2_with fail
                go_round
                case rel => exact ⟨j + 1, by omega, by omega, by go_num, HS.out⟩
                case measure => simp [intOf]; omega
            · have HL := Lib.hid (while_len linB s k j hkj hj (fun i h1 h2 => HA.out i h1 (by omega) h2) (fun h => absurd h hjl))
              go_wp2_with fail
              go_round
              case rel => exact ⟨j, by omega, hj, rfl, rem_step HD.out Hb.out Hr.out HL.out hkj HI.out⟩
              case measure => have := rem_far HD.out Hr.out HL.out; simp [intOf]; omega
    · go_wp2_with fail
      go_ret
      exact ⟨k, rfl, rfl, hak, hk, HI.out, fun h => absurd h hlt⟩
end Go.Proofs.YtcmbcbdijmknnaaDoor
