/-
  DERIVED. Layer 3: contract of the document's Right (leadlineref03).
-/
import Derived.Test.YtcmbcbdijmknnaaDoorRefEnd
namespace Go.Proofs.YtcmbcbdijmknnaaDoor
open Go.RowKit

theorem right_long {L : List Nod} (h : 40 < L.length) : rightL L = false := by
  unfold rightL; cases wholeT L with
  | none => rfl
  | some x => simp; omega
theorem right_not {L : List Nod} (h : endV L 0 ≠ L.length) : rightL L = false := by
  unfold rightL
  cases hw : wholeT L with
  | none => rfl
  | some x => exact absurd (end_whole hw) h
theorem right_bad {L : List Nod} (h : L.all nodOK = false) : rightL L = false := by
  unfold rightL; cases wholeT L with
  | none => rfl
  | some x => simp [h]

set_option maxRecDepth 100000 in
set_option maxHeartbeats 4000000 in
theorem rright_any (v : Value) (L : List Nod) (w : World) (h : ReadN w v L) (hl : L.length ≤ 10000) (hs : SmallN L) : Calls Tryd.prog 18 #[v] w (TellsB (rightL L) w) := by
  have HH := Lib.hid h
  have HS := Lib.hid hs
  obtain ⟨A, c, rfl, hc, hm, hr⟩ := h
  clear hr hs
  by_cases h40 : 40 < L.length
  · have HF := Lib.hid (right_long h40)
    have f1 : (40 : Int) < (L.length : Int) := by omega
    go_enter Tryd.func18, Tryd.ntmps18
    go_wp2_with fail
    go_ret
    exact ⟨ret_bool HF.out.symm, Below.refl _ _⟩
  · have f1 : ¬ (40 : Int) < (L.length : Int) := by omega
    have f2 : decide ((40 : Int) < (L.length : Int)) = false := by simp; omega
    have f3 : decide (40 < L.length) = false := by simp; omega
    by_cases he : endV L 0 = L.length
    · have HE := Lib.hid he
      clear he
      go_enter Tryd.func18, Tryd.ntmps18
      go_wp2_with fail
      refine (rend_any _ L 0 _ HH.out hl).mono ?_
      rw [HE.out]
      rintro e w' ⟨rfl, rfl⟩
      go_wp2_with fail
      go_loopw [3] (fun i wr => ∃ k : Nat, k ≤ L.length ∧ i = .int .i64 k ∧ (L.take k).all nodOK = true ∧ Below w.heap.size w wr) (fun i _ => L.length - (intOf i).toNat)
      case atStart => exact ⟨0, Nat.zero_le _, rfl, rfl, Below.refl _ _⟩
      case round =>
        obtain ⟨k, hk, rfl, hall, hbel⟩ := hrel
        have HB := Lib.hid hbel
        have HA := Lib.hid hall
        have hsz := hbel.size
        clear hall
        by_cases hlt : k < L.length
        · have hat : L[k]? = some L[k] := List.getElem?_eq_getElem hlt
          have hnm := HS.out _ (List.getElem_mem hlt)
          have HB2 : Hid (∀ o, Below w.heap.size w (wr.alloc o)) := Lib.hid (fun o => hbel.alloc hsz o)
          generalize L[k] = a at *
          obtain ⟨A', c', hv', _, _, hr⟩ := HH.out.on hbel
          obtain ⟨rfl, rfl⟩ : A = A' ∧ c = c' := by simp only [Value.slice.injEq] at hv'; exact ⟨hv'.1, hv'.2.2⟩
          obtain ⟨g, o, rfl, hg, x0, x1, x2, x3⟩ := hr k a hat
          have HW : Hid (nodOK a = false → rightL L = false) := Lib.hid (fun hp => right_bad (any_wrong hat hp))
          have HN : Hid (nodOK a = true → (L.take (k + 1)).all nodOK = true) := Lib.hid (fun hp => all_succN hat HA.out hp)
          clear hr hv' hat hbel
          obtain ⟨op, n, name, pl⟩ := a
          simp only at hnm x0 x1 x2 x3
          go_wp2_with fail
          all_goals first
            | (go_ret
               exact ⟨ret_bool (HW.out (by clear HW HN HB2 HB HA HS HH HE x0 x1 x2 x3; simp_all [nodOK]; try omega)).symm, HB2.out _⟩)
            | (go_roundw
               case rel => exact ⟨k + 1, by omega, by go_num, HN.out (by clear HW HN HB2 HB HA HS HH HE x0 x1 x2 x3; simp_all [nodOK]; try omega), HB2.out _⟩
               case measure => simp [intOf]; omega)
            | skip
          refine (rname_any ⟨name.toArray⟩ _ (by show name.toArray.size ≤ _; simpa using hnm)).mono ?_
          rw [show (ByteArray.mk name.toArray).data.toList = name from by simp]
          cases hnb : nameB name with
          | true =>
            rintro e w1 ⟨rfl, hb⟩
            have HB3 := Lib.hid (below_then (HB2.out _) hb)
            clear hb
            go_wp2_with fail
            go_roundw
            case rel => exact ⟨k + 1, by omega, by go_num, HN.out (by clear HW HN HB2 HB HA HS HH HE HB3 x0 x1 x2 x3; simp_all [nodOK]; try omega), HB3.out⟩
            case measure => simp [intOf]; omega
          | false =>
            rintro e w1 ⟨rfl, hb⟩
            have HB3 := Lib.hid (below_then (HB2.out _) hb)
            clear hb
            go_wp2_with fail
            go_ret
            exact ⟨ret_bool (HW.out (by clear HW HN HB2 HB HA HS HH HE HB3 x0 x1 x2 x3; simp_all [nodOK])).symm, HB3.out⟩
        · have hak : L.all nodOK = true := by
            have := HA.out
            rw [show k = L.length from by omega, List.take_length] at this
            exact this
          have HE2 := HE.out
          obtain ⟨x, hw⟩ : ∃ x, wholeT L = some x := by
            cases hw : wholeT L with
            | none => exact absurd HE2 (end_not hw)
            | some x => exact ⟨x, rfl⟩
          obtain ⟨hox, hfx⟩ := whole_some hw
          have HR : Hid (rightL L = decide (x.deep ≤ 12)) := Lib.hid (by
            rw [hfx, right_flat hox, ← hfx, hak, ← flat_len, ← hfx, show decide (L.length ≤ 40) = true from by simp; omega]; rfl)
          have hdz := deep_size x
          have hxl : x.size = L.length := by rw [hfx, flat_len]
          have HO := Lib.hid hox
          have HD : Hid (L.drop 0 = x.flat ++ []) := Lib.hid (by rw [← hfx]; simp)
          clear hak hw hox hfx hbel HE2
          go_wp2_with fail
          refine (rdeep_any x.size x _ L 0 [] _ (Nat.le_refl _) HO.out (HH.out.on HB.out) hl HD.out).mono ?_
          rintro e w' ⟨rfl, rfl⟩
          go_wp2_with fail
          go_ret
          exact ⟨ret_bool (by rw [HR.out]; simp; omega), HB.out⟩
    · have HF := Lib.hid (right_not he)
      have HE : Hid ((endV L 0 != (L.length : Int)) = true) := Lib.hid (by simpa using he)
      clear he
      go_enter Tryd.func18, Tryd.ntmps18
      go_wp2_with fail
      refine (rend_any _ L 0 _ HH.out hl).mono ?_
      generalize endV L 0 = q at *
      have hq := HE.out
      rintro e w' ⟨rfl, rfl⟩
      go_wp2_with fail
      go_ret
      exact ⟨ret_bool HF.out.symm, Below.refl _ _⟩
end Go.Proofs.YtcmbcbdijmknnaaDoor
