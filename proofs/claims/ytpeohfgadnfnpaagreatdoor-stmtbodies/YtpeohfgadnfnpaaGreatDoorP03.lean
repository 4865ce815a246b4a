/-
  DERIVED. Texts of the walk, packed: Kept, Show.
-/
import Derived.Test.YtpeohfgadnfnpaaGreatDoorP02
import Derived.Maps.OwnSet
import Derived.Maps.OwnOps
/-
  DERIVED. Layer 3: contracts of scan.keptWords, scan.Kept and scan.Name.
-/
namespace Go.Proofs.YtpeohfgadnfnpaaGreatDoor
open Go.RowKit Go.Maps

theorem law9 : Keyed Tryz.prog 9 := string_keyed Tryz.underlying9
theorem zero41 (w : World) : (zeroValue 140).run Tryz.prog w = .ok (.agg #[]) w := by kernel_rfl
/-- A set of texts that the call has made, and nothing else has turned. -/
def KW (w0 w : World) (acc : List Lit) : Prop := w.ownsMap Tryz.prog 9 (unitElem (H := Unit)) w0.heap.size acc.length (setOf (.agg []) acc) ∧ Below w0.heap.size w0 w ∧ w0.heap.size < w.heap.size
theorem wpList_kept {w0 : World} (w : World) {ops : Array Oper} {rest : List Oper} {o : Oper} {a : Act} {Q : Exit → Act → World → Prop} {acc : List Lit} (hK0 : KW w0 w acc)
    (hg : o.guard = none) (m x v : Operand) (hop : o.op = Op.insert 142 m x v) (hm : a.eval m = .map (some w0.heap.size)) (hn : acc.length < maxLen) (s : ByteArray) (hx : a.eval x = .string s) (hs : s.size ≤ maxLen) (hv : a.eval v = .agg #[])
    (hK : ∀ w', KW w0 w' (acc ++ [.string s.data.toList]) → wpList Tryz.prog ops Q rest (a.put o.dst undef) w') :
    wpList Tryz.prog ops Q (o :: rest) a w := by
  refine wpList_plain hg fun K' hK' => ?_
  obtain ⟨hown, hb, hz⟩ := hK0
  obtain ⟨w', hrun, r1, r2⟩ := hown.update law9 Tryz.underlying142 hn (WideMaps.keyOf_string_mk Tryz.underlying9 hs) unitElem_mk
  unfold Oper.wp
  simp [execOp, hop, hm, hx, hv, hrun, Result.andThen]
  refine hK' _ _ (hK w' ⟨?_, ?_, ?_⟩)
  · rw [setOf_snoc, List.length_append]; exact r1
  · exact hb.grown r2 (by omega) (fun k hk => by cases hk; exact Nat.le_refl _)
  · have := r2.size; omega

set_option maxRecDepth 100000 in
set_option maxHeartbeats 4000000 in
theorem keptWords_any (w : World) : Calls Tryz.prog 128 #[] w fun e w' => e = .returned (.map (some w.heap.size)) ∧ KW w w' (keptTab.map Lit.string) := by
  have hmm := @run_makeMap Tryz.prog
  have h0 : KW w (w.alloc (.map #[] 0)) [] := ⟨World.ownsMap_made _ _ _ _, (Below.refl _ _).alloc (Nat.le_refl _) _, by simp⟩
  go_enter Tryz.func128, Tryz.ntmps128
  go_wp2_with (refine wpList_kept _ (by assumption) rfl (.tmp 1) _ _ rfl rfl (by unfold maxLen; decide) _ rfl (by unfold maxLen; decide) rfl ?_; intro w' hk)
  go_ret
  refine ⟨rfl, by assumption⟩

/-- What a function of one truth comes back with that makes memory of its own. -/
def TellsB (b : Bool) (w : World) (e : Ending) (w' : World) : Prop := e = .returned (.bool b) ∧ Below w.heap.size w w'
theorem has_kept (l : List UInt8) : Maps.has (setOf (H := Unit) (.agg []) (keptTab.map Lit.string)) (.string l) = keptB l := by
  rw [has_setOf _ _ _ (by intro x hx; simp only [List.mem_map] at hx; obtain ⟨t, _, rfl⟩ := hx; trivial), List.any_map]
  rfl

set_option maxHeartbeats 2000000 in
theorem kept_any (s : ByteArray) (w : World) (hs : s.size ≤ 100000) : Calls Tryz.prog 112 #[.string s] w (TellsB (keptB s.data.toList) w) := by
  have HK := Lib.hid (has_kept s.data.toList)
  go_enter Tryz.func112, Tryz.ntmps112
  go_wp2_with fail
  refine (keptWords_any _).mono ?_
  rintro e w1 ⟨rfl, hk⟩
  have HW := Lib.hid hk
  clear hk
  go_wp2_with (at_lookup; refine wpList_lookup_own_unit _ rfl _ _ 142 rfl 9 140 law9 Tryz.underlying142 (zero41 _) w.heap.size _ _ rfl HW.out.1 _ _ rfl (WideMaps.keyOf_string_mk Tryz.underlying9 (by unfold maxLen; omega)) ?_)
  rw [HK.out]
  go_wp2_with fail
  go_ret
  exact ⟨rfl, HW.out.2.1.alloc (Nat.le_of_lt HW.out.2.2) _⟩

theorem name_empty (s : ByteArray) (h : s.size = 0) : nameB s.data.toList = false := by
  have : s.data.toList = [] := List.length_eq_zero_iff.1 (by rw [len_data]; exact h)
  rw [this]; rfl
theorem name_eq (s : ByteArray) (h : 0 < s.size) : nameB s.data.toList = (decide (s.size ≤ 16) && letB s[0] && s.data.toList.all wrdB && !keptB s.data.toList) := by
  have e := drop_at s 0 h
  rw [List.drop_zero] at e
  unfold nameB
  rw [len_data]
  generalize hk : keptB s.data.toList = k
  generalize ha : s.data.toList.all wrdB = a
  rw [e]
  simp

set_option maxHeartbeats 4000000 in
theorem name_any (s : ByteArray) (w : World) (hs : s.size ≤ 100000) : Calls Tryz.prog 75 #[.string s] w (TellsB (nameB s.data.toList) w) := by
  by_cases h0 : 0 < s.size
  · have hE := name_eq s h0
    have he : s.toList.isEmpty = false := by
      rw [ByteArray.toList_eq]
      rw [List.isEmpty_eq_false_iff]
      intro e
      have := len_data s; rw [e] at this; simp at this; omega
    have he2 : (s.toList == []) = false := by simpa using he
    by_cases h1 : s.size ≤ 16
    · cases h2 : letB (s[0]'h0) with
      | true =>
        cases h3 : s.data.toList.all wrdB with
        | true =>
          have HR : Hid (nameB s.data.toList = !keptB s.data.toList) := Lib.hid (by rw [hE, h2, h3]; simp [h1])
          have HW : Hid ((ByteArray.mk (s.data.toList.takeWhile wrdB).toArray).toList == s.toList) := Lib.hid (by rw [ByteArray.toList_eq, ByteArray.toList_eq]; simp only []; rw [while_same, h3])
          have H2 := Lib.hid h2
          clear hE h2 h3
          go_enter Tryz.func75, Tryz.ntmps75
          go_wp2_with fail
          refine (letter_any _ _).mono ?_
          rw [H2.out]
          rintro e w' ⟨rfl, rfl⟩
          go_wp2_with fail
          refine (row_inWord s _ hs).mono ?_
          rintro e w' ⟨rfl, rfl⟩
          have hw := HW.out
          generalize ByteArray.mk (s.data.toList.takeWhile wrdB).toArray = u at *
          go_wp2_with fail
          refine (kept_any s _ hs).mono ?_
          rintro e w1 ⟨rfl, hb⟩
          go_wp2_with fail
          go_ret
          exact ⟨ret_bool HR.out.symm, hb⟩
        | false =>
          have HR : Hid (nameB s.data.toList = false) := Lib.hid (by rw [hE, h2, h3]; simp)
          have HW : Hid (((ByteArray.mk (s.data.toList.takeWhile wrdB).toArray).toList == s.toList) = false) := Lib.hid (by rw [ByteArray.toList_eq, ByteArray.toList_eq]; simp only []; rw [while_same, h3])
          have H2 := Lib.hid h2
          clear hE h2 h3
          go_enter Tryz.func75, Tryz.ntmps75
          go_wp2_with fail
          refine (letter_any _ _).mono ?_
          rw [H2.out]
          rintro e w' ⟨rfl, rfl⟩
          go_wp2_with fail
          refine (row_inWord s _ hs).mono ?_
          rintro e w' ⟨rfl, rfl⟩
          have hw := HW.out
          generalize ByteArray.mk (s.data.toList.takeWhile wrdB).toArray = u at *
          go_wp2_with fail
          go_ret
          exact ⟨ret_bool HR.out.symm, Below.refl _ _⟩
      | false =>
        have HR : Hid (nameB s.data.toList = false) := Lib.hid (by rw [hE, h2]; simp)
        have H2 := Lib.hid h2
        clear hE h2
        go_enter Tryz.func75, Tryz.ntmps75
        go_wp2_with fail
        refine (letter_any _ _).mono ?_
        rw [H2.out]
        rintro e w' ⟨rfl, rfl⟩
        go_wp2_with fail
        go_ret
        exact ⟨ret_bool HR.out.symm, Below.refl _ _⟩
    · have HR : Hid (nameB s.data.toList = false) := Lib.hid (by rw [hE]; simp [h1])
      clear hE
      go_enter Tryz.func75, Tryz.ntmps75
      go_wp2_with fail
      go_ret
      exact ⟨ret_bool HR.out.symm, Below.refl _ _⟩
  · have hz : s.size = 0 := by omega
    have HR := Lib.hid (name_empty s hz)
    have : s.data.toList = [] := List.length_eq_zero_iff.1 (by rw [len_data]; exact hz)
    have he : s.toList.isEmpty = true := by rw [ByteArray.toList_eq, this]; rfl
    have he2 : (s.toList == []) = true := by rw [ByteArray.toList_eq, this]; rfl
    clear hz this
    go_enter Tryz.func75, Tryz.ntmps75
    go_wp2_with fail
    go_ret
    exact ⟨ret_bool HR.out.symm, Below.refl _ _⟩
end Go.Proofs.YtpeohfgadnfnpaaGreatDoor
/-
  DERIVED. Layer 3: contracts of scan.has, scan.Is and scan.Place.
-/
namespace Go.Proofs.YtpeohfgadnfnpaaGreatDoor
open Go.RowKit

theorem has_any (v : Value) (L : List Tok) (i : Int) (w : World) (h : ReadT w v L) : Calls Tryz.prog 52 #[v, .int .i64 i] w (Tells (decide (0 ≤ i ∧ i < L.length)) w) := by
  obtain ⟨A, c, rfl, hc, hr⟩ := h
  clear hr
  by_cases h0 : 0 ≤ i
  · by_cases h1 : i < L.length
    · go_enter Tryz.func52, Tryz.ntmps52
      go_wp2_with fail
      go_ret
      exact ⟨ret_bool (by simp [h0, h1]), rfl⟩
    · go_enter Tryz.func52, Tryz.ntmps52
      go_wp2_with fail
      go_ret
      exact ⟨ret_bool (by simp [h1]), rfl⟩
  · go_enter Tryz.func52, Tryz.ntmps52
    go_wp2_with fail
    go_ret
    exact ⟨ret_bool (by simp; omega), rfl⟩
theorem has_yes (v : Value) (L : List Tok) (i : Int) (w : World) (h : ReadT w v L) (h0 : 0 ≤ i) (h1 : i < L.length) : Calls Tryz.prog 52 #[v, .int .i64 i] w (Tells true w) := by
  have := has_any v L i w h
  rwa [show decide (0 ≤ i ∧ i < L.length) = true from by simp [h0, h1]] at this
theorem has_no (v : Value) (L : List Tok) (i : Int) (w : World) (h : ReadT w v L) (h0 : ¬ (0 ≤ i ∧ i < L.length)) : Calls Tryz.prog 52 #[v, .int .i64 i] w (Tells false w) := by
  have := has_any v L i w h
  rwa [show decide (0 ≤ i ∧ i < L.length) = false from by simpa using h0] at this

set_option maxRecDepth 100000 in
set_option maxHeartbeats 2000000 in
theorem is_any (v : Value) (L : List Tok) (i : Int) (s : ByteArray) (w : World) (h : ReadT w v L) : Calls Tryz.prog 48 #[v, .int .i64 i, .string s] w (TellsB (isB L i s.data.toList) w) := by
  by_cases hi : 0 ≤ i ∧ i < L.length
  · obtain ⟨k, rfl⟩ : ∃ k : Nat, i = (k : Int) := ⟨i.toNat, by omega⟩
    have hk : k < L.length := by omega
    have ha : L[k]? = some L[k] := List.getElem?_eq_getElem hk
    generalize L[k] = a at *
    have HR : Hid (isB L k s.data.toList = ((a.kind == 1 || a.kind == 3) && a.text == s.data.toList)) := Lib.hid (by unfold isB; rw [Int.toNat_natCast, ha]; simp)
    have HH := Lib.hid h
    obtain ⟨A, c, hv, hc, hr⟩ := h
    obtain ⟨g, rfl, hg, x0, x1, x2, x3⟩ := hr k a ha
    subst hv
    clear hr ha
    have HT : Hid ((a.text == s.toList) = (a.text == s.data.toList)) := Lib.hid (by rw [ByteArray.toList_eq])
    cases e1 : (a.kind == 1) with
    | true =>
      have HE := Lib.hid e1
      go_enter Tryz.func48, Tryz.ntmps48
      go_wp2_with fail
      refine (has_yes _ L k _ HH.out (by omega) (by omega)).mono ?_
      rintro e w' ⟨rfl, rfl⟩
      go_wp2_with fail
      go_ret
      exact ⟨ret_bool (by rw [HR.out, HT.out, HE.out]; simp), (Below.refl _ _).alloc (Nat.le_refl _) _⟩
    | false =>
      have HE := Lib.hid e1
      cases e2 : (a.kind == 3) with
      | true =>
        have HE2 := Lib.hid e2
        go_enter Tryz.func48, Tryz.ntmps48
        go_wp2_with fail
        refine (has_yes _ L k _ HH.out (by omega) (by omega)).mono ?_
        rintro e w' ⟨rfl, rfl⟩
        go_wp2_with fail
        go_ret
        exact ⟨ret_bool (by rw [HR.out, HT.out, HE.out, HE2.out]; simp), (Below.refl _ _).alloc (Nat.le_refl _) _⟩
      | false =>
        have HE2 := Lib.hid e2
        go_enter Tryz.func48, Tryz.ntmps48
        go_wp2_with fail
        refine (has_yes _ L k _ HH.out (by omega) (by omega)).mono ?_
        rintro e w' ⟨rfl, rfl⟩
        go_wp2_with fail
        go_ret
        exact ⟨ret_bool (by rw [HR.out, HE.out, HE2.out]; simp), (Below.refl _ _).alloc (Nat.le_refl _) _⟩
  · have HR : Hid (isB L i s.data.toList = false) := Lib.hid (by
      unfold isB
      by_cases h0 : 0 ≤ i
      · rw [List.getElem?_eq_none (by omega)]; simp
      · simp [h0])
    have HH := Lib.hid h
    obtain ⟨A, c, rfl, hc, hr⟩ := h
    have HI := Lib.hid hi
    clear hr hi
    go_enter Tryz.func48, Tryz.ntmps48
    go_wp2_with fail
    refine (has_no _ L i _ HH.out HI.out).mono ?_
    rintro e w' ⟨rfl, rfl⟩
    go_wp2_with fail
    go_ret
    exact ⟨ret_bool HR.out.symm, Below.refl _ _⟩

/-- What a call of one number comes back with. -/
def GivesN (n : Int) (w : World) (e : Ending) (w' : World) : Prop := e = .returned (.int .i64 n) ∧ Below w.heap.size w w'
theorem givesN_of {n n' : Int} {w w' : World} {e : Ending} (he : e = .returned (.int .i64 n')) (h : n' = n) (hb : Below w.heap.size w w') : GivesN n w e w' := by
  subst h; exact ⟨he, hb⟩
set_option maxRecDepth 100000 in
set_option maxHeartbeats 2000000 in
theorem place_any (v : Value) (L : List Tok) (i : Int) (w : World) (h : ReadT w v L) (hl : L.length ≤ 10000) (hs : SmallT L) : Calls Tryz.prog 28 #[v, .int .i64 i] w (GivesN (placeV L i) w) := by
  by_cases hi : 0 ≤ i ∧ i < L.length
  · obtain ⟨k, rfl⟩ : ∃ k : Nat, i = (k : Int) := ⟨i.toNat, by omega⟩
    have hk : k < L.length := by omega
    have ha : L[k]? = some L[k] := List.getElem?_eq_getElem hk
    generalize L[k] = a at *
    have HR := Lib.hid (place_in ha)
    have HH := Lib.hid h
    obtain ⟨A, c, hv, hc, hr⟩ := h
    obtain ⟨g, rfl, hg, x0, x1, x2, x3⟩ := hr k a ha
    subst hv
    clear hr ha hs
    go_enter Tryz.func28, Tryz.ntmps28
    go_wp2_with fail
    refine (has_yes _ L k _ HH.out (by omega) (by omega)).mono ?_
    rintro e w' ⟨rfl, rfl⟩
    go_wp2_with fail
    go_ret
    exact givesN_of rfl HR.out.symm (Below.refl _ _)
  · have HI := Lib.hid hi
    by_cases h0 : L = []
    · subst h0
      have HH := Lib.hid h
      obtain ⟨A, c, rfl, hc, hr⟩ := h
      clear hr hi hs
      go_enter Tryz.func28, Tryz.ntmps28
      go_wp2_with fail
      refine (has_no _ [] i _ HH.out HI.out).mono ?_
      rintro e w' ⟨rfl, rfl⟩
      go_wp2_with fail
      go_ret
      exact givesN_of rfl (place_nil i).symm (Below.refl _ _)
    · have hpos : 0 < L.length := List.length_pos_iff.2 h0
      have hl0 : ((L.length : Int) == 0) = false := beq_eq_false_iff_ne.2 (by omega)
      have ha : L[L.length - 1]? = some (L[L.length - 1]'(by omega)) := List.getElem?_eq_getElem (by omega)
      have hsm := hs _ (List.getElem_mem (show L.length - 1 < L.length by omega))
      generalize L[L.length - 1]'(by omega) = a at *
      have HR := Lib.hid (place_out hi ha)
      have HH := Lib.hid h
      obtain ⟨A, c, hv, hc, hr⟩ := h
      obtain ⟨g, rfl, hg, x0, x1, x2, x3⟩ := hr _ a ha
      subst hv
      clear hr ha hs hi h0
      obtain ⟨n, hn⟩ : ∃ n, L.length = n + 1 := ⟨L.length - 1, by omega⟩
      have HN := Lib.hid hn
      rw [hn] at x0 x1 x2 x3 hl0 hc hl
      rw [show n + 1 - 1 = n from rfl] at x0 x1 x2 x3
      rw [show Value.slice (some ⟨g, 0, none⟩) L.length c = Value.slice (some ⟨g, 0, none⟩) (n + 1) c from by rw [hn]] at *
      clear hn hpos
      go_enter Tryz.func28, Tryz.ntmps28
      go_wp2_with fail
      refine (has_no _ L i _ HH.out HI.out).mono ?_
      rintro e w' ⟨rfl, rfl⟩
      go_wp2_with fail
      go_ret
      exact givesN_of rfl HR.out.symm ((Below.refl _ _).alloc (Nat.le_refl _) _)
end Go.Proofs.YtpeohfgadnfnpaaGreatDoor
