/-
  DERIVED. Layer 2: the contract of scan.sign: the sign with which a text begins, off the table of signs.
-/
import Derived.Test.YtgecocpcbfccgaaDoorFirst
namespace Go.Proofs.YtgecocpcbfccgaaDoor
open Go.RowKit

/-- The table of signs as the program holds it. -/
def signVals : Array Value := (signTab.map fun t => Value.string ⟨t.toArray⟩).toArray
def Signs (w : World) : Prop := ∃ t fr, w.heap[0]? = some (.cells signVals t fr)
theorem Signs.lt {w : World} (h : Signs w) : 0 < w.heap.size := by
  obtain ⟨t, fr, h⟩ := h
  exact (Array.getElem?_eq_some_iff.1 h).1
theorem Signs.on {w w' : World} (h : Signs w) (hb : Below w.heap.size w w') : Signs w' := by
  have hl := h.lt
  obtain ⟨t, fr, h⟩ := h
  exact ⟨t, fr, (hb.block 0 hl).trans h⟩
theorem Signs.alloc {w : World} (h : Signs w) (o : Obj) : Signs (w.alloc o) := h.on ((Below.refl _ _).alloc (Nat.le_refl _) _)
theorem sign_index : ∀ k, k < 19 → ∀ w : World, (Instr.index 62 (.agg signVals) (.int .i64 (k : Nat))).run Tryd.prog w = .ok (.string ⟨(signTab.getD k []).toArray⟩) w := by
  intro k hk w
  have h : k = 0 ∨ k = 1 ∨ k = 2 ∨ k = 3 ∨ k = 4 ∨ k = 5 ∨ k = 6 ∨ k = 7 ∨ k = 8 ∨ k = 9 ∨ k = 10 ∨ k = 11 ∨ k = 12 ∨ k = 13 ∨ k = 14 ∨ k = 15 ∨ k = 16 ∨ k = 17 ∨ k = 18 := by omega
  rcases h with rfl | rfl | rfl | rfl | rfl | rfl | rfl | rfl | rfl | rfl | rfl | rfl | rfl | rfl | rfl | rfl | rfl | rfl | rfl
  all_goals (refine Eq.trans ?_ rfl; kernel_rfl)
theorem sign_at {k : Nat} (hk : k < 19) : signTab[k]? = some (signTab.getD k []) := by
  rw [List.getD_eq_getElem?_getD, List.getElem?_eq_getElem (show k < signTab.length from hk)]; rfl
theorem sign_end {l : List UInt8} (h : (signTab.take 19).find? (fun t => t.isPrefixOf l) = none) : signCut l = .no 3 := by
  unfold signCut signOf
  rw [show signTab.take 19 = signTab from rfl] at h
  rw [h]
theorem find_go {l : List UInt8} {L : List (List UInt8)} {k : Nat} {t : List UInt8} (ht : L[k]? = some t) (h : (L.take k).find? (fun t => t.isPrefixOf l) = none) (hp : Lib.hasPrefix l t = false) : (L.take (k + 1)).find? (fun t => t.isPrefixOf l) = none := by
  rw [List.take_add_one, ht, List.find?_append, h]
  unfold Lib.hasPrefix at hp
  simp [hp]
theorem find_hit {l : List UInt8} {L : List (List UInt8)} {k : Nat} {t : List UInt8} (ht : L[k]? = some t) (h : (L.take k).find? (fun t => t.isPrefixOf l) = none) (hp : Lib.hasPrefix l t = true) : L.find? (fun t => t.isPrefixOf l) = some t := by
  have e2 : L = L.take (k + 1) ++ L.drop (k + 1) := by rw [List.take_append_drop]
  unfold Lib.hasPrefix at hp
  rw [e2, List.take_add_one, ht, List.find?_append, List.find?_append, h]
  simp [hp]
theorem sign_go {l : List UInt8} {k : Nat} (hk : k < 19) (h : (signTab.take k).find? (fun t => t.isPrefixOf l) = none) (hp : Lib.hasPrefix l (signTab.getD k []) = false) : (signTab.take (k + 1)).find? (fun t => t.isPrefixOf l) = none := find_go (sign_at hk) h hp
theorem sign_hit {l : List UInt8} {k : Nat} (hk : k < 19) (h : (signTab.take k).find? (fun t => t.isPrefixOf l) = none) (hp : Lib.hasPrefix l (signTab.getD k []) = true) : signCut l = ⟨0, 3, signTab.getD k [], 0⟩ := by
  unfold signCut signOf
  rw [find_hit (sign_at hk) h hp]

set_option maxHeartbeats 2000000 in
theorem sign_any (s : ByteArray) (w : World) (hw : Signs w) : Calls Tryd.prog 42 #[.string s] w (GivesTok (signCut s.data.toList) w) := by
  have hix := sign_index
  obtain ⟨tt, fr, hg⟩ := (hw.alloc (.cells #[.int .i64 0, .string ⟨#[]⟩, .int .i64 0, .int .i64 0] 31))
  have HG := Lib.hid hg
  have HX := Lib.hid hix
  clear hg hix
  go_enter Tryd.func42, Tryd.ntmps42
  go_wp2_with (refine wpList_load_row rfl 62 _ rfl 0 rfl tt signVals fr _ HG.out Tryd.underlying62 rfl (by kernel_rfl) ?_)
  go_loop [7] (fun i => ∃ k : Nat, k ≤ 19 ∧ i = .int .i64 k ∧ (signTab.take k).find? (fun t => t.isPrefixOf s.data.toList) = none) (fun i => 19 - (intOf i).toNat)
  case atStart => exact ⟨0, Nat.zero_le _, rfl, rfl⟩
  case round =>
    obtain ⟨k, hk, rfl, ha⟩ := hrel
    have HA := Lib.hid ha
    clear ha
    by_cases hlt : k < 19
    · have hx := HX.out k hlt
      cases hp : Lib.hasPrefix s.data.toList (signTab.getD k []) with
      | true =>
        have HR := Lib.hid (sign_hit hlt HA.out hp)
        generalize signTab.getD k [] = t at *
        have HP := Lib.hid hp
        clear hp
        go_wp2_with fail
        refine (Tryd.strings_HasPrefix s ⟨t.toArray⟩ _).mono ?_
        rw [show (ByteArray.mk t.toArray).data.toList = t from by simp, HP.out]
        rintro e w' ⟨rfl, rfl⟩
        go_wp2_with fail
        exact bodyPost_ret (v := .tuple #[.agg #[.int .i64 3, .string ⟨t.toArray⟩, .int .i64 0, .int .i64 0], .int .i64 0]) (by simp [results, Tryd.results42, go_sem]) rfl (givesTok_of (c' := ⟨0, 3, t, 0⟩) rfl HR.out ((Below.refl _ _).alloc (Nat.le_refl _) _))
      | false =>
        have HR := Lib.hid (sign_go hlt HA.out hp)
        generalize signTab.getD k [] = t at *
        have HP := Lib.hid hp
        clear hp
        go_wp2_with fail
        refine (Tryd.strings_HasPrefix s ⟨t.toArray⟩ _).mono ?_
        rw [show (ByteArray.mk t.toArray).data.toList = t from by simp, HP.out]
        rintro e w' ⟨rfl, rfl⟩
        go_wp2_with fail
        go_round
        case rel => exact ⟨k + 1, by omega, by go_num, HR.out⟩
        case measure => simp [intOf]; omega
    · obtain rfl : k = 19 := by omega
      have HR := Lib.hid (sign_end HA.out)
      go_wp2_with fail
      exact bodyPost_ret (v := .tuple #[.agg #[.int .i64 0, .string ⟨#[]⟩, .int .i64 0, .int .i64 0], .int .i64 3]) (by simp [results, Tryd.results42, go_sem]) rfl (givesTok_of (c' := .no 3) rfl HR.out ((Below.refl _ _).alloc (Nat.le_refl _) _))

/-- What scan.first says of a text that has a first byte. -/
theorem first_of (s : ByteArray) (h : 0 < s.size) : cutOf s.data.toList = if letB s[0] = true then wordCut s.data.toList else if digB s[0] = true then numCut s.data.toList else signCut s.data.toList := by
  have e := drop_at s 0 h
  rw [List.drop_zero] at e
  rw [e]
  rfl
theorem below_set4 {w w1 : World} (hb : Below w.heap.size w w1) {g : Nat} (hg : w.heap.size ≤ g) (x0 x1 x2 x3 : Value) :
    Below w.heap.size w ((((w1.setCell ⟨g, 0, none⟩ x0).setCell ⟨g, 1, none⟩ x1).setCell ⟨g, 2, none⟩ x2).setCell ⟨g, 3, none⟩ x3) :=
  (((hb.setCell hg _).setCell hg _).setCell hg _).setCell hg _

set_option maxHeartbeats 2000000 in
theorem first_any (s : ByteArray) (w : World) (hs : s.size ≤ 100000) (h0 : 0 < s.size) (hw : Signs w) : Calls Tryd.prog 28 #[.string s] w (GivesTok (cutOf s.data.toList) w) := by
  have hC := first_of s h0
  have HW := Lib.hid (hw.alloc (.cells #[.int .i64 0, .string ⟨#[]⟩, .int .i64 0, .int .i64 0] 31))
  cases h1 : letB (s[0]'h0) with
  | true =>
    rw [h1, if_pos rfl] at hC
    rw [hC]
    have H1 := Lib.hid h1
    clear h1 hC
    generalize hc : wordCut s.data.toList = c
    have HC := Lib.hid hc
    clear hc
    go_enter Tryd.func28, Tryd.ntmps28
    go_wp2_with fail
    refine (letter_any _ _).mono ?_
    rw [H1.out]
    rintro e w' ⟨rfl, rfl⟩
    go_wp2_with fail
    refine (word_any s _ hs).mono ?_
    rw [HC.out]
    rintro e w1 ⟨rfl, hb⟩
    obtain ⟨hc, hf⟩ := boxes_stay hb
    go_wp2_with fail
    exact bodyPost_ret (v := .tuple #[.agg #[.int .i64 c.kind, .string ⟨c.text.toArray⟩, .int .i64 c.n, .int .i64 0], .int .i64 c.err]) (by simp [results, Tryd.results28, go_sem, hc]) rfl (givesTok_of rfl rfl (below_box4 hb _ _ _ _))
  | false =>
    cases h2 : digB (s[0]'h0) with
    | true =>
      rw [h1, if_neg (by simp), h2, if_pos rfl] at hC
      rw [hC]
      have H1 := Lib.hid h1
      have H2 := Lib.hid h2
      clear h1 h2 hC
      generalize hc : numCut s.data.toList = c
      have HC := Lib.hid hc
      clear hc
      go_enter Tryd.func28, Tryd.ntmps28
      go_wp2_with fail
      refine (letter_any _ _).mono ?_
      rw [H1.out]
      rintro e w' ⟨rfl, rfl⟩
      go_wp2_with fail
      refine (digit_any _ _).mono ?_
      rw [H2.out]
      rintro e w' ⟨rfl, rfl⟩
      go_wp2_with fail
      refine (number_any s _ hs).mono ?_
      rw [HC.out]
      rintro e w1 ⟨rfl, hb⟩
      obtain ⟨hc, hf⟩ := boxes_stay hb
      go_wp2_with fail
      exact bodyPost_ret (v := .tuple #[.agg #[.int .i64 c.kind, .string ⟨c.text.toArray⟩, .int .i64 c.n, .int .i64 0], .int .i64 c.err]) (by simp [results, Tryd.results28, go_sem, hc]) rfl (givesTok_of rfl rfl (below_box4 hb _ _ _ _))
    | false =>
      rw [h1, if_neg (by simp), h2, if_neg (by simp)] at hC
      rw [hC]
      have H1 := Lib.hid h1
      have H2 := Lib.hid h2
      clear h1 h2 hC
      generalize hc : signCut s.data.toList = c
      have HC := Lib.hid hc
      clear hc
      go_enter Tryd.func28, Tryd.ntmps28
      go_wp2_with fail
      refine (letter_any _ _).mono ?_
      rw [H1.out]
      rintro e w' ⟨rfl, rfl⟩
      go_wp2_with fail
      refine (digit_any _ _).mono ?_
      rw [H2.out]
      rintro e w' ⟨rfl, rfl⟩
      go_wp2_with fail
      refine (sign_any s _ HW.out).mono ?_
      rw [HC.out]
      rintro e w1 ⟨rfl, hb⟩
      obtain ⟨hc, hf⟩ := boxes_stay hb
      go_wp2_with fail
      exact bodyPost_ret (v := .tuple #[.agg #[.int .i64 c.kind, .string ⟨c.text.toArray⟩, .int .i64 c.n, .int .i64 0], .int .i64 c.err]) (by simp [results, Tryd.results28, go_sem, hc]) rfl (givesTok_of rfl rfl (below_box4 hb _ _ _ _))
end Go.Proofs.YtgecocpcbfccgaaDoor
