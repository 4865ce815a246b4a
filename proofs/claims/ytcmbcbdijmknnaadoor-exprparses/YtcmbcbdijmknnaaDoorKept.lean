/-
  DERIVED. Layer 3: contracts of scan.keptWords, scan.Kept and scan.Name.
-/
import Derived.Test.YtcmbcbdijmknnaaDoorRow
import Derived.Maps.OwnSet
import Derived.Maps.OwnOps
namespace Go.Proofs.YtcmbcbdijmknnaaDoor
open Go.RowKit Go.Maps

theorem law9 : Keyed Tryd.prog 9 := string_keyed Tryd.underlying9
theorem zero41 (w : World) : (zeroValue 91).run Tryd.prog w = .ok (.agg #[]) w := by kernel_rfl
/-- A set of texts that the call has made, and nothing else has turned. -/
def KW (w0 w : World) (acc : List Lit) : Prop := w.ownsMap Tryd.prog 9 (unitElem (H := Unit)) w0.heap.size acc.length (setOf (.agg []) acc) ∧ Below w0.heap.size w0 w ∧ w0.heap.size < w.heap.size
theorem wpList_kept {w0 : World} (w : World) {ops : Array Oper} {rest : List Oper} {o : Oper} {a : Act} {Q : Exit → Act → World → Prop} {acc : List Lit} (hK0 : KW w0 w acc)
    (hg : o.guard = none) (m x v : Operand) (hop : o.op = Op.insert 93 m x v) (hm : a.eval m = .map (some w0.heap.size)) (hn : acc.length < maxLen) (s : ByteArray) (hx : a.eval x = .string s) (hs : s.size ≤ maxLen) (hv : a.eval v = .agg #[])
    (hK : ∀ w', KW w0 w' (acc ++ [.string s.data.toList]) → wpList Tryd.prog ops Q rest (a.put o.dst undef) w') :
    wpList Tryd.prog ops Q (o :: rest) a w := by
  refine wpList_plain hg fun K' hK' => ?_
  obtain ⟨hown, hb, hz⟩ := hK0
  obtain ⟨w', hrun, r1, r2⟩ := hown.update law9 Tryd.underlying93 hn (WideMaps.keyOf_string_mk Tryd.underlying9 hs) unitElem_mk
  unfold Oper.wp
  simp [execOp, hop, hm, hx, hv, hrun, Result.andThen]
  refine hK' _ _ (hK w' ⟨?_, ?_, ?_⟩)
  · rw [setOf_snoc, List.length_append]; exact r1
  · exact hb.grown r2 (by omega) (fun k hk => by cases hk; exact Nat.le_refl _)
  · have := r2.size; omega

set_option maxRecDepth 100000 in
set_option maxHeartbeats 4000000 in
theorem keptWords_any (w : World) : Calls Tryd.prog 81 #[] w fun e w' => e = .returned (.map (some w.heap.size)) ∧ KW w w' (keptTab.map Lit.string) := by
  have hmm := @run_makeMap Tryd.prog
  have h0 : KW w (w.alloc (.map #[] 0)) [] := ⟨World.ownsMap_made _ _ _ _, (Below.refl _ _).alloc (Nat.le_refl _) _, by simp⟩
  go_enter Tryd.func81, Tryd.ntmps81
  go_wp2_with (refine wpList_kept _ (by assumption) rfl (.tmp 1) _ _ rfl rfl (by unfold maxLen; decide) _ rfl (by unfold maxLen; decide) rfl ?_; intro w' hk)
  go_ret
  refine ⟨rfl, by assumption⟩

/-- What a function of one truth comes back with that makes memory of its own. -/
def TellsB (b : Bool) (w : World) (e : Ending) (w' : World) : Prop := e = .returned (.bool b) ∧ Below w.heap.size w w'
theorem has_kept (l : List UInt8) : Maps.has (setOf (H := Unit) (.agg []) (keptTab.map Lit.string)) (.string l) = keptB l := by
  rw [has_setOf _ _ _ (by intro x hx; simp only [List.mem_map] at hx; obtain ⟨t, _, rfl⟩ := hx; trivial), List.any_map]
  rfl

set_option maxHeartbeats 2000000 in
theorem kept_any (s : ByteArray) (w : World) (hs : s.size ≤ 100000) : Calls Tryd.prog 75 #[.string s] w (TellsB (keptB s.data.toList) w) := by
  have HK := Lib.hid (has_kept s.data.toList)
  go_enter Tryd.func75, Tryd.ntmps75
  go_wp2_with fail
  refine (keptWords_any _).mono ?_
  rintro e w1 ⟨rfl, hk⟩
  have HW := Lib.hid hk
  clear hk
  go_wp2_with (at_lookup; refine wpList_lookup_own_unit _ rfl _ _ 93 rfl 9 91 law9 Tryd.underlying93 (zero41 _) w.heap.size _ _ rfl HW.out.1 _ _ rfl (WideMaps.keyOf_string_mk Tryd.underlying9 (by unfold maxLen; omega)) ?_)
  rw [HK.out]
  go_wp2_with fail
  go_ret
  exact ⟨rfl, HW.out.2.1.alloc (Nat.le_of_lt HW.out.2.2) _⟩

theorem name_empty (s : ByteArray) (h : s.size = 0) : nameB s.data.toList = false := by
  have : s.data.toList = [] := List.length_eq_zero_iff.1 (by rw [len_data]; exact h)
  rw [this]; rfl
theorem name_eq (s : ByteArray) (h : 0 < s.size) : nameB s.data.toList = (decide (s.size ≤ 16) && letB s[0] && s.data.toList.all wrdB && !keptB s.data.toList) := by
  have e := drop_at s 0 h
  rw [List.drop_zero] at e
  unfold nameB
  rw [len_data]
  generalize hk : keptB s.data.toList = k
  generalize ha : s.data.toList.all wrdB = a
  rw [e]
  simp

set_option maxHeartbeats 4000000 in
theorem name_any (s : ByteArray) (w : World) (hs : s.size ≤ 100000) : Calls Tryd.prog 59 #[.string s] w (TellsB (nameB s.data.toList) w) := by
  by_cases h0 : 0 < s.size
  · have hE := name_eq s h0
    have he : s.toList.isEmpty = false := by
      rw [ByteArray.toList_eq]
      rw [List.isEmpty_eq_false_iff]
      intro e
      have := len_data s; rw [e] at this; simp at this; omega
    have he2 : (s.toList == []) = false := by simpa using he
    by_cases h1 : s.size ≤ 16
    · cases h2 : letB (s[0]'h0) with
      | true =>
        cases h3 : s.data.toList.all wrdB with
        | true =>
          have HR : Hid (nameB s.data.toList = !keptB s.data.toList) := Lib.hid (by rw [hE, h2, h3]; simp [h1])
          have HW : Hid ((ByteArray.mk (s.data.toList.takeWhile wrdB).toArray).toList == s.toList) := Lib.hid (by rw [ByteArray.toList_eq, ByteArray.toList_eq]; simp only []; rw [while_same, h3])
          have H2 := Lib.hid h2
          clear hE h2 h3
          go_enter Tryd.func59, Tryd.ntmps59
          go_wp2_with fail
          refine (letter_any _ _).mono ?_
          rw [H2.out]
          rintro e w' ⟨rfl, rfl⟩
          go_wp2_with fail
          refine (row_inWord s _ hs).mono ?_
          rintro e w' ⟨rfl, rfl⟩
          have hw := HW.out
          generalize ByteArray.mk (s.data.toList.takeWhile wrdB).toArray = u at *
          go_wp2_with fail
          refine (kept_any s _ hs).mono ?_
          rintro e w1 ⟨rfl, hb⟩
          go_wp2_with fail
          go_ret
          exact ⟨ret_bool HR.out.symm, hb⟩
        | false =>
          have HR : Hid (nameB s.data.toList = false) := Lib.hid (by rw [hE, h2, h3]; simp)
          have HW : Hid (((ByteArray.mk (s.data.toList.takeWhile wrdB).toArray).toList == s.toList) = false) := Lib.hid (by rw [ByteArray.toList_eq, ByteArray.toList_eq]; simp only []; rw [while_same, h3])
          have H2 := Lib.hid h2
          clear hE h2 h3
          go_enter Tryd.func59, Tryd.ntmps59
          go_wp2_with fail
          refine (letter_any _ _).mono ?_
          rw [H2.out]
          rintro e w' ⟨rfl, rfl⟩
          go_wp2_with fail
          refine (row_inWord s _ hs).mono ?_
          rintro e w' ⟨rfl, rfl⟩
          have hw := HW.out
          generalize ByteArray.mk (s.data.toList.takeWhile wrdB).toArray = u at *
          go_wp2_with fail
          go_ret
          exact ⟨ret_bool HR.out.symm, Below.refl _ _⟩
      | false =>
        have HR : Hid (nameB s.data.toList = false) := Lib.hid (by rw [hE, h2]; simp)
        have H2 := Lib.hid h2
        clear hE h2
        go_enter Tryd.func59, Tryd.ntmps59
        go_wp2_with fail
        refine (letter_any _ _).mono ?_
        rw [H2.out]
        rintro e w' ⟨rfl, rfl⟩
        go_wp2_with fail
        go_ret
        exact ⟨ret_bool HR.out.symm, Below.refl _ _⟩
    · have HR : Hid (nameB s.data.toList = false) := Lib.hid (by rw [hE]; simp [h1])
      clear hE
      go_enter Tryd.func59, Tryd.ntmps59
      go_wp2_with fail
      go_ret
      exact ⟨ret_bool HR.out.symm, Below.refl _ _⟩
  · have hz : s.size = 0 := by omega
    have HR := Lib.hid (name_empty s hz)
    have : s.data.toList = [] := List.length_eq_zero_iff.1 (by rw [len_data]; exact hz)
    have he : s.toList.isEmpty = true := by rw [ByteArray.toList_eq, this]; rfl
    have he2 : (s.toList == []) = true := by rw [ByteArray.toList_eq, this]; rfl
    clear hz this
    go_enter Tryd.func59, Tryd.ntmps59
    go_wp2_with fail
    go_ret
    exact ⟨ret_bool HR.out.symm, Below.refl _ _⟩
end Go.Proofs.YtcmbcbdijmknnaaDoor
