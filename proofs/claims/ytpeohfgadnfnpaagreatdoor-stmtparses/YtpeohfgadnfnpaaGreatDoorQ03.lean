/-
  DERIVED. Texts of the walk, packed: Kept, Show, Tree.
-/
import Derived.Test.YtpeohfgadnfnpaaGreatDoorQ02
import Derived.Maps.OwnSet
import Derived.Maps.OwnOps
/-
  DERIVED. Layer 3: contracts of scan.keptWords, scan.Kept and scan.Name.
-/
namespace Go.Proofs.YtpeohfgadnfnpaaGreatDoor
open Go.RowKit Go.Maps

theorem law9 : Keyed Tryz.prog 9 := string_keyed Tryz.underlying9
theorem zero41 (w : World) : (zeroValue 140).run Tryz.prog w = .ok (.agg #[]) w := by kernel_rfl
/-- A set of texts that the call has made, and nothing else has turned. -/
def KW (w0 w : World) (acc : List Lit) : Prop := w.ownsMap Tryz.prog 9 (unitElem (H := Unit)) w0.heap.size acc.length (setOf (.agg []) acc) ∧ Below w0.heap.size w0 w ∧ w0.heap.size < w.heap.size
theorem wpList_kept {w0 : World} (w : World) {ops : Array Oper} {rest : List Oper} {o : Oper} {a : Act} {Q : Exit → Act → World → Prop} {acc : List Lit} (hK0 : KW w0 w acc)
    (hg : o.guard = none) (m x v : Operand) (hop : o.op = Op.insert 142 m x v) (hm : a.eval m = .map (some w0.heap.size)) (hn : acc.length < maxLen) (s : ByteArray) (hx : a.eval x = .string s) (hs : s.size ≤ maxLen) (hv : a.eval v = .agg #[])
    (hK : ∀ w', KW w0 w' (acc ++ [.string s.data.toList]) → wpList Tryz.prog ops Q rest (a.put o.dst undef) w') :
    wpList Tryz.prog ops Q (o :: rest) a w := by
  refine wpList_plain hg fun K' hK' => ?_
  obtain ⟨hown, hb, hz⟩ := hK0
  obtain ⟨w', hrun, r1, r2⟩ := hown.update law9 Tryz.underlying142 hn (WideMaps.keyOf_string_mk Tryz.underlying9 hs) unitElem_mk
  unfold Oper.wp
  simp [execOp, hop, hm, hx, hv, hrun, Result.andThen]
  refine hK' _ _ (hK w' ⟨?_, ?_, ?_⟩)
  · rw [setOf_snoc, List.length_append]; exact r1
  · exact hb.grown r2 (by omega) (fun k hk => by cases hk; exact Nat.le_refl _)
  · have := r2.size; omega

set_option maxRecDepth 100000 in
set_option maxHeartbeats 4000000 in
theorem keptWords_any (w : World) : Calls Tryz.prog 128 #[] w fun e w' => e = .returned (.map (some w.heap.size)) ∧ KW w w' (keptTab.map Lit.string) := by
  have hmm := @run_makeMap Tryz.prog
  have h0 : KW w (w.alloc (.map #[] 0)) [] := ⟨World.ownsMap_made _ _ _ _, (Below.refl _ _).alloc (Nat.le_refl _) _, by simp⟩
  go_enter Tryz.func128, Tryz.ntmps128
  go_wp2_with (refine wpList_kept _ (by assumption) rfl (.tmp 1) _ _ rfl rfl (by unfold maxLen; decide) _ rfl (by unfold maxLen; decide) rfl ?_; intro w' hk)
  go_ret
  refine ⟨rfl, by assumption⟩

/-- What a function of one truth comes back with that makes memory of its own. -/
def TellsB (b : Bool) (w : World) (e : Ending) (w' : World) : Prop := e = .returned (.bool b) ∧ Below w.heap.size w w'
theorem has_kept (l : List UInt8) : Maps.has (setOf (H := Unit) (.agg []) (keptTab.map Lit.string)) (.string l) = keptB l := by
  rw [has_setOf _ _ _ (by intro x hx; simp only [List.mem_map] at hx; obtain ⟨t, _, rfl⟩ := hx; trivial), List.any_map]
  rfl

set_option maxHeartbeats 2000000 in
theorem kept_any (s : ByteArray) (w : World) (hs : s.size ≤ 100000) : Calls Tryz.prog 112 #[.string s] w (TellsB (keptB s.data.toList) w) := by
  have HK := Lib.hid (has_kept s.data.toList)
  go_enter Tryz.func112, Tryz.ntmps112
  go_wp2_with fail
  refine (keptWords_any _).mono ?_
  rintro e w1 ⟨rfl, hk⟩
  have HW := Lib.hid hk
  clear hk
  go_wp2_with (at_lookup; refine wpList_lookup_own_unit _ rfl _ _ 142 rfl 9 140 law9 Tryz.underlying142 (zero41 _) w.heap.size _ _ rfl HW.out.1 _ _ rfl (WideMaps.keyOf_string_mk Tryz.underlying9 (by unfold maxLen; omega)) ?_)
  rw [HK.out]
  go_wp2_with fail
  go_ret
  exact ⟨rfl, HW.out.2.1.alloc (Nat.le_of_lt HW.out.2.2) _⟩

theorem name_empty (s : ByteArray) (h : s.size = 0) : nameB s.data.toList = false := by
  have : s.data.toList = [] := List.length_eq_zero_iff.1 (by rw [len_data]; exact h)
  rw [this]; rfl
theorem name_eq (s : ByteArray) (h : 0 < s.size) : nameB s.data.toList = (decide (s.size ≤ 16) && letB s[0] && s.data.toList.all wrdB && !keptB s.data.toList) := by
  have e := drop_at s 0 h
  rw [List.drop_zero] at e
  unfold nameB
  rw [len_data]
  generalize hk : keptB s.data.toList = k
  generalize ha : s.data.toList.all wrdB = a
  rw [e]
  simp

set_option maxHeartbeats 4000000 in
theorem name_any (s : ByteArray) (w : World) (hs : s.size ≤ 100000) : Calls Tryz.prog 75 #[.string s] w (TellsB (nameB s.data.toList) w) := by
  by_cases h0 : 0 < s.size
  · have hE := name_eq s h0
    have he : s.toList.isEmpty = false := by
      rw [ByteArray.toList_eq]
      rw [List.isEmpty_eq_false_iff]
      intro e
      have := len_data s; rw [e] at this; simp at this; omega
    have he2 : (s.toList == []) = false := by simpa using he
    by_cases h1 : s.size ≤ 16
    · cases h2 : letB (s[0]'h0) with
      | true =>
        cases h3 : s.data.toList.all wrdB with
        | true =>
          have HR : Hid (nameB s.data.toList = !keptB s.data.toList) := Lib.hid (by rw [hE, h2, h3]; simp [h1])
          have HW : Hid ((ByteArray.mk (s.data.toList.takeWhile wrdB).toArray).toList == s.toList) := Lib.hid (by rw [ByteArray.toList_eq, ByteArray.toList_eq]; simp only []; rw [while_same, h3])
          have H2 := Lib.hid h2
          clear hE h2 h3
          go_enter Tryz.func75, Tryz.ntmps75
          go_wp2_with fail
          refine (letter_any _ _).mono ?_
          rw [H2.out]
          rintro e w' ⟨rfl, rfl⟩
          go_wp2_with fail
          refine (row_inWord s _ hs).mono ?_
          rintro e w' ⟨rfl, rfl⟩
          have hw := HW.out
          generalize ByteArray.mk (s.data.toList.takeWhile wrdB).toArray = u at *
          go_wp2_with fail
          refine (kept_any s _ hs).mono ?_
          rintro e w1 ⟨rfl, hb⟩
          go_wp2_with fail
          go_ret
          exact ⟨ret_bool HR.out.symm, hb⟩
        | false =>
          have HR : Hid (nameB s.data.toList = false) := Lib.hid (by rw [hE, h2, h3]; simp)
          have HW : Hid (((ByteArray.mk (s.data.toList.takeWhile wrdB).toArray).toList == s.toList) = false) := Lib.hid (by rw [ByteArray.toList_eq, ByteArray.toList_eq]; simp only []; rw [while_same, h3])
          have H2 := Lib.hid h2
          clear hE h2 h3
          go_enter Tryz.func75, Tryz.ntmps75
          go_wp2_with fail
          refine (letter_any _ _).mono ?_
          rw [H2.out]
          rintro e w' ⟨rfl, rfl⟩
          go_wp2_with fail
          refine (row_inWord s _ hs).mono ?_
          rintro e w' ⟨rfl, rfl⟩
          have hw := HW.out
          generalize ByteArray.mk (s.data.toList.takeWhile wrdB).toArray = u at *
          go_wp2_with fail
          go_ret
          exact ⟨ret_bool HR.out.symm, Below.refl _ _⟩
      | false =>
        have HR : Hid (nameB s.data.toList = false) := Lib.hid (by rw [hE, h2]; simp)
        have H2 := Lib.hid h2
        clear hE h2
        go_enter Tryz.func75, Tryz.ntmps75
        go_wp2_with fail
        refine (letter_any _ _).mono ?_
        rw [H2.out]
        rintro e w' ⟨rfl, rfl⟩
        go_wp2_with fail
        go_ret
        exact ⟨ret_bool HR.out.symm, Below.refl _ _⟩
    · have HR : Hid (nameB s.data.toList = false) := Lib.hid (by rw [hE]; simp [h1])
      clear hE
      go_enter Tryz.func75, Tryz.ntmps75
      go_wp2_with fail
      go_ret
      exact ⟨ret_bool HR.out.symm, Below.refl _ _⟩
  · have hz : s.size = 0 := by omega
    have HR := Lib.hid (name_empty s hz)
    have : s.data.toList = [] := List.length_eq_zero_iff.1 (by rw [len_data]; exact hz)
    have he : s.toList.isEmpty = true := by rw [ByteArray.toList_eq, this]; rfl
    have he2 : (s.toList == []) = true := by rw [ByteArray.toList_eq, this]; rfl
    clear hz this
    go_enter Tryz.func75, Tryz.ntmps75
    go_wp2_with fail
    go_ret
    exact ⟨ret_bool HR.out.symm, Below.refl _ _⟩
end Go.Proofs.YtpeohfgadnfnpaaGreatDoor
/-
  DERIVED. Layer 3: contracts of scan.has, scan.Is and scan.Place.
-/
namespace Go.Proofs.YtpeohfgadnfnpaaGreatDoor
open Go.RowKit

theorem has_any (v : Value) (L : List Tok) (i : Int) (w : World) (h : ReadT w v L) : Calls Tryz.prog 52 #[v, .int .i64 i] w (Tells (decide (0 ≤ i ∧ i < L.length)) w) := by
  obtain ⟨A, c, rfl, hc, hr⟩ := h
  clear hr
  by_cases h0 : 0 ≤ i
  · by_cases h1 : i < L.length
    · go_enter Tryz.func52, Tryz.ntmps52
      go_wp2_with fail
      go_ret
      exact ⟨ret_bool (by simp [h0, h1]), rfl⟩
    · go_enter Tryz.func52, Tryz.ntmps52
      go_wp2_with fail
      go_ret
      exact ⟨ret_bool (by simp [h1]), rfl⟩
  · go_enter Tryz.func52, Tryz.ntmps52
    go_wp2_with fail
    go_ret
    exact ⟨ret_bool (by simp; omega), rfl⟩
theorem has_yes (v : Value) (L : List Tok) (i : Int) (w : World) (h : ReadT w v L) (h0 : 0 ≤ i) (h1 : i < L.length) : Calls Tryz.prog 52 #[v, .int .i64 i] w (Tells true w) := by
  have := has_any v L i w h
  rwa [show decide (0 ≤ i ∧ i < L.length) = true from by simp [h0, h1]] at this
theorem has_no (v : Value) (L : List Tok) (i : Int) (w : World) (h : ReadT w v L) (h0 : ¬ (0 ≤ i ∧ i < L.length)) : Calls Tryz.prog 52 #[v, .int .i64 i] w (Tells false w) := by
  have := has_any v L i w h
  rwa [show decide (0 ≤ i ∧ i < L.length) = false from by simpa using h0] at this

set_option maxRecDepth 100000 in
set_option maxHeartbeats 2000000 in
theorem is_any (v : Value) (L : List Tok) (i : Int) (s : ByteArray) (w : World) (h : ReadT w v L) : Calls Tryz.prog 48 #[v, .int .i64 i, .string s] w (TellsB (isB L i s.data.toList) w) := by
  by_cases hi : 0 ≤ i ∧ i < L.length
  · obtain ⟨k, rfl⟩ : ∃ k : Nat, i = (k : Int) := ⟨i.toNat, by omega⟩
    have hk : k < L.length := by omega
    have ha : L[k]? = some L[k] := List.getElem?_eq_getElem hk
    generalize L[k] = a at *
    have HR : Hid (isB L k s.data.toList = ((a.kind == 1 || a.kind == 3) && a.text == s.data.toList)) := Lib.hid (by unfold isB; rw [Int.toNat_natCast, ha]; simp)
    have HH := Lib.hid h
    obtain ⟨A, c, hv, hc, hr⟩ := h
    obtain ⟨g, rfl, hg, x0, x1, x2, x3⟩ := hr k a ha
    subst hv
    clear hr ha
    have HT : Hid ((a.text == s.toList) = (a.text == s.data.toList)) := Lib.hid (by rw [ByteArray.toList_eq])
    cases e1 : (a.kind == 1) with
    | true =>
      have HE := Lib.hid e1
      go_enter Tryz.func48, Tryz.ntmps48
      go_wp2_with fail
      refine (has_yes _ L k _ HH.out (by omega) (by omega)).mono ?_
      rintro e w' ⟨rfl, rfl⟩
      go_wp2_with fail
      go_ret
      exact ⟨ret_bool (by rw [HR.out, HT.out, HE.out]; simp), (Below.refl _ _).alloc (Nat.le_refl _) _⟩
    | false =>
      have HE := Lib.hid e1
      cases e2 : (a.kind == 3) with
      | true =>
        have HE2 := Lib.hid e2
        go_enter Tryz.func48, Tryz.ntmps48
        go_wp2_with fail
        refine (has_yes _ L k _ HH.out (by omega) (by omega)).mono ?_
        rintro e w' ⟨rfl, rfl⟩
        go_wp2_with fail
        go_ret
        exact ⟨ret_bool (by rw [HR.out, HT.out, HE.out, HE2.out]; simp), (Below.refl _ _).alloc (Nat.le_refl _) _⟩
      | false =>
        have HE2 := Lib.hid e2
        go_enter Tryz.func48, Tryz.ntmps48
        go_wp2_with fail
        refine (has_yes _ L k _ HH.out (by omega) (by omega)).mono ?_
        rintro e w' ⟨rfl, rfl⟩
        go_wp2_with fail
        go_ret
        exact ⟨ret_bool (by rw [HR.out, HE.out, HE2.out]; simp), (Below.refl _ _).alloc (Nat.le_refl _) _⟩
  · have HR : Hid (isB L i s.data.toList = false) := Lib.hid (by
      unfold isB
      by_cases h0 : 0 ≤ i
      · rw [List.getElem?_eq_none (by omega)]; simp
      · simp [h0])
    have HH := Lib.hid h
    obtain ⟨A, c, rfl, hc, hr⟩ := h
    have HI := Lib.hid hi
    clear hr hi
    go_enter Tryz.func48, Tryz.ntmps48
    go_wp2_with fail
    refine (has_no _ L i _ HH.out HI.out).mono ?_
    rintro e w' ⟨rfl, rfl⟩
    go_wp2_with fail
    go_ret
    exact ⟨ret_bool HR.out.symm, Below.refl _ _⟩

/-- What a call of one number comes back with. -/
def GivesN (n : Int) (w : World) (e : Ending) (w' : World) : Prop := e = .returned (.int .i64 n) ∧ Below w.heap.size w w'
theorem givesN_of {n n' : Int} {w w' : World} {e : Ending} (he : e = .returned (.int .i64 n')) (h : n' = n) (hb : Below w.heap.size w w') : GivesN n w e w' := by
  subst h; exact ⟨he, hb⟩
set_option maxRecDepth 100000 in
set_option maxHeartbeats 2000000 in
theorem place_any (v : Value) (L : List Tok) (i : Int) (w : World) (h : ReadT w v L) (hl : L.length ≤ 10000) (hs : SmallT L) : Calls Tryz.prog 28 #[v, .int .i64 i] w (GivesN (placeV L i) w) := by
  by_cases hi : 0 ≤ i ∧ i < L.length
  · obtain ⟨k, rfl⟩ : ∃ k : Nat, i = (k : Int) := ⟨i.toNat, by omega⟩
    have hk : k < L.length := by omega
    have ha : L[k]? = some L[k] := List.getElem?_eq_getElem hk
    generalize L[k] = a at *
    have HR := Lib.hid (place_in ha)
    have HH := Lib.hid h
    obtain ⟨A, c, hv, hc, hr⟩ := h
    obtain ⟨g, rfl, hg, x0, x1, x2, x3⟩ := hr k a ha
    subst hv
    clear hr ha hs
    go_enter Tryz.func28, Tryz.ntmps28
    go_wp2_with fail
    refine (has_yes _ L k _ HH.out (by omega) (by omega)).mono ?_
    rintro e w' ⟨rfl, rfl⟩
    go_wp2_with fail
    go_ret
    exact givesN_of rfl HR.out.symm (Below.refl _ _)
  · have HI := Lib.hid hi
    by_cases h0 : L = []
    · subst h0
      have HH := Lib.hid h
      obtain ⟨A, c, rfl, hc, hr⟩ := h
      clear hr hi hs
      go_enter Tryz.func28, Tryz.ntmps28
      go_wp2_with fail
      refine (has_no _ [] i _ HH.out HI.out).mono ?_
      rintro e w' ⟨rfl, rfl⟩
      go_wp2_with fail
      go_ret
      exact givesN_of rfl (place_nil i).symm (Below.refl _ _)
    · have hpos : 0 < L.length := List.length_pos_iff.2 h0
      have hl0 : ((L.length : Int) == 0) = false := beq_eq_false_iff_ne.2 (by omega)
      have ha : L[L.length - 1]? = some (L[L.length - 1]'(by omega)) := List.getElem?_eq_getElem (by omega)
      have hsm := hs _ (List.getElem_mem (show L.length - 1 < L.length by omega))
      generalize L[L.length - 1]'(by omega) = a at *
      have HR := Lib.hid (place_out hi ha)
      have HH := Lib.hid h
      obtain ⟨A, c, hv, hc, hr⟩ := h
      obtain ⟨g, rfl, hg, x0, x1, x2, x3⟩ := hr _ a ha
      subst hv
      clear hr ha hs hi h0
      obtain ⟨n, hn⟩ : ∃ n, L.length = n + 1 := ⟨L.length - 1, by omega⟩
      have HN := Lib.hid hn
      rw [hn] at x0 x1 x2 x3 hl0 hc hl
      rw [show n + 1 - 1 = n from rfl] at x0 x1 x2 x3
      rw [show Value.slice (some ⟨g, 0, none⟩) L.length c = Value.slice (some ⟨g, 0, none⟩) (n + 1) c from by rw [hn]] at *
      clear hn hpos
      go_enter Tryz.func28, Tryz.ntmps28
      go_wp2_with fail
      refine (has_no _ L i _ HH.out HI.out).mono ?_
      rintro e w' ⟨rfl, rfl⟩
      go_wp2_with fail
      go_ret
      exact givesN_of rfl HR.out.symm ((Below.refl _ _).alloc (Nat.le_refl _) _)
end Go.Proofs.YtpeohfgadnfnpaaGreatDoor
/-
  DERIVED. Layer 3: the plain mathematics of expressions: nodes, trees, where one ends, how deep it is; nothing of the program in it.
-/
namespace Go.Proofs.YtpeohfgadnfnpaaGreatDoor

/-- A node: operator, number, name, place. -/
structure Nod where
  op : Int
  n : Int
  name : List UInt8
  pl : Int
deriving DecidableEq

/-- How many operands an operator has. -/
def takesN (op : Int) : Option Nat := if op = 1 ∨ op = 2 then some 0 else if op = 3 ∨ op = 4 then some 1 else if 5 ≤ op ∧ op ≤ 15 then some 2 else none
def takesV (op : Int) : Int := match takesN op with
  | some t => t
  | none => -1
theorem takes_le {op : Int} {t : Nat} (h : takesN op = some t) : t ≤ 2 := by
  unfold takesN at h
  split at h
  · simp at h; omega
  · split at h
    · simp at h; omega
    · split at h
      · simp at h; omega
      · cases h
theorem takesV_some {op : Int} {t : Nat} (h : takesN op = some t) : takesV op = t := by unfold takesV; rw [h]
theorem takesV_none {op : Int} (h : takesN op = none) : takesV op = -1 := by unfold takesV; rw [h]
theorem takes_op {op : Int} {t : Nat} (h : takesN op = some t) : 1 ≤ op ∧ op ≤ 15 := by
  unfold takesN at h
  split at h
  · omega
  · split at h
    · omega
    · split at h
      · omega
      · cases h

/-- A whole expression. -/
inductive Ex where
  | leaf (a : Nod)
  | un (a : Nod) (x : Ex)
  | bin (a : Nod) (x y : Ex)
deriving DecidableEq
def Ex.flat : Ex → List Nod
  | .leaf a => [a]
  | .un a x => a :: x.flat
  | .bin a x y => a :: (x.flat ++ y.flat)
def Ex.ok : Ex → Prop
  | .leaf a => takesN a.op = some 0
  | .un a x => takesN a.op = some 1 ∧ x.ok
  | .bin a x y => takesN a.op = some 2 ∧ x.ok ∧ y.ok
def Ex.deep : Ex → Nat
  | .leaf _ => 1
  | .un _ x => x.deep + 1
  | .bin _ x y => max x.deep y.deep + 1
def Ex.size : Ex → Nat
  | .leaf _ => 1
  | .un _ x => x.size + 1
  | .bin _ x y => x.size + y.size + 1
def Ex.top : Ex → Nod
  | .leaf a => a
  | .un a _ => a
  | .bin a _ _ => a
theorem flat_len (x : Ex) : x.flat.length = x.size := by
  induction x with
  | leaf a => rfl
  | un a x ih => simp [Ex.flat, Ex.size, ih]
  | bin a x y ih1 ih2 => simp [Ex.flat, Ex.size, ih1, ih2]
theorem size_pos (x : Ex) : 1 ≤ x.size := by cases x <;> simp [Ex.size]
theorem deep_pos (x : Ex) : 1 ≤ x.deep := by cases x <;> simp [Ex.deep]
theorem deep_size (x : Ex) : x.deep ≤ x.size := by
  induction x with
  | leaf a => exact Nat.le_refl _
  | un a x ih => simp [Ex.deep, Ex.size]; omega
  | bin a x y ih1 ih2 => simp [Ex.deep, Ex.size]; omega
theorem flat_head (x : Ex) : ∃ r, x.flat = x.top :: r := by cases x <;> exact ⟨_, rfl⟩
theorem flat_ne (x : Ex) : x.flat ≠ [] := by obtain ⟨r, h⟩ := flat_head x; rw [h]; simp

/-- How many nodes the expressions that are still missing (one more than m) take. -/
def endC : Nat → List Nod → Option Nat
  | _, [] => none
  | m, a :: r => match takesN a.op with
    | none => none
    | some t => if m + t = 0 then some 1 else (endC (m + t - 1) r).map (· + 1)
def endV (L : List Nod) (i : Int) : Int := if i < 0 then -1 else match endC 0 (L.drop i.toNat) with
  | some k => i + k
  | none => -1
theorem endC_none {m : Nat} {a : Nod} (r : List Nod) (h : takesN a.op = none) : endC m (a :: r) = none := by unfold endC; rw [h]
theorem endC_last {a : Nod} (r : List Nod) (h : takesN a.op = some 0) : endC 0 (a :: r) = some 1 := by unfold endC; rw [h]; rfl
theorem endC_more {m t : Nat} {a : Nod} (r : List Nod) (h : takesN a.op = some t) (h2 : m + t ≠ 0) : endC m (a :: r) = (endC (m + t - 1) r).map (· + 1) := by
  rw [endC, h]; simp only; rw [if_neg h2]
theorem endC_join (m : Nat) : ∀ (l : List Nod) (n : Nat), endC (m + n + 1) l = (endC n l).bind fun k => (endC m (l.drop k)).map (· + k) := by
  intro l
  induction l with
  | nil => intro n; rfl
  | cons a r ih =>
    intro n
    cases ht : takesN a.op with
    | none => rw [endC_none r ht, endC_none r ht]; rfl
    | some t =>
      rw [endC_more r ht (by omega)]
      by_cases h0 : n + t = 0
      · obtain ⟨rfl, rfl⟩ : n = 0 ∧ t = 0 := by omega
        rw [endC_last r ht]
        show (endC m r).map _ = (endC m (List.drop 1 (a :: r))).map _
        rfl
      · rw [endC_more r ht h0, show m + n + 1 + t - 1 = m + (n + t - 1) + 1 from by omega, ih]
        cases h1 : endC (n + t - 1) r with
        | none => rfl
        | some k =>
          show Option.map _ (Option.map _ (endC m (r.drop k))) = Option.map _ (endC m ((a :: r).drop (k + 1)))
          rw [List.drop_succ_cons, Option.map_map]
          rfl
theorem endC_le : ∀ (l : List Nod) (m k : Nat), endC m l = some k → 1 ≤ k ∧ k ≤ l.length := by
  intro l
  induction l with
  | nil => intro m k h; cases h
  | cons a r ih =>
    intro m k h
    cases ht : takesN a.op with
    | none => rw [endC_none r ht] at h; cases h
    | some t =>
      by_cases h0 : m + t = 0
      · obtain ⟨rfl, rfl⟩ : m = 0 ∧ t = 0 := by omega
        rw [endC_last r ht] at h
        simp at h; simp; omega
      · rw [endC_more r ht h0] at h
        cases h1 : endC (m + t - 1) r with
        | none => rw [h1] at h; cases h
        | some j =>
          rw [h1] at h; simp at h
          have := ih _ _ h1
          simp; omega
/-- A whole expression ends behind its nodes. -/
theorem endC_flat (x : Ex) : ∀ (r : List Nod), x.ok → endC 0 (x.flat ++ r) = some x.size := by
  induction x with
  | leaf a => intro r h; exact endC_last r h
  | un a x ih =>
    intro r h
    show endC 0 (a :: (x.flat ++ r)) = _
    rw [endC_more _ h.1 (by omega)]
    show Option.map _ (endC 0 _) = _
    rw [ih r h.2]; rfl
  | bin a x y ih1 ih2 =>
    intro r h
    show endC 0 (a :: (x.flat ++ y.flat ++ r)) = _
    rw [endC_more _ h.1 (by omega)]
    show Option.map _ (endC (0 + 0 + 1) _) = _
    rw [endC_join 0 _ 0, List.append_assoc, ih1 _ h.2.1]
    show Option.map _ (Option.map _ (endC 0 (List.drop x.size (x.flat ++ (y.flat ++ r))))) = _
    rw [← flat_len x, List.drop_left, ih2 _ h.2.2, flat_len]
    show some (y.size + x.size + 1) = some (x.size + y.size + 1)
    rw [Nat.add_comm y.size]
/-- And what ends so is whole expressions. -/
theorem endC_trees : ∀ (l : List Nod) (m k : Nat), endC m l = some k → ∃ xs : List Ex, xs.length = m + 1 ∧ (∀ x ∈ xs, x.ok) ∧ xs.flatMap Ex.flat = l.take k := by
  intro l
  induction l with
  | nil => intro m k h; cases h
  | cons a r ih =>
    intro m k h
    cases ht : takesN a.op with
    | none => rw [endC_none r ht] at h; cases h
    | some t =>
      by_cases h0 : m + t = 0
      · obtain ⟨rfl, rfl⟩ : m = 0 ∧ t = 0 := by omega
        rw [endC_last r ht] at h
        simp at h; subst h
        exact ⟨[.leaf a], rfl, fun x hx => by simp at hx; subst hx; exact ht, rfl⟩
      · rw [endC_more r ht h0] at h
        cases h1 : endC (m + t - 1) r with
        | none => rw [h1] at h; cases h
        | some j =>
          rw [h1] at h; simp at h; subst h
          obtain ⟨xs, hl, ho, hf⟩ := ih _ _ h1
          have ht2 := takes_le ht
          match t, ht, ht2, hl with
          | 0, ht, _, hl =>
            refine ⟨.leaf a :: xs, by simp; omega, fun x hx => ?_, ?_⟩
            · rcases List.mem_cons.1 hx with rfl | hx
              · exact ht
              · exact ho x hx
            · rw [List.flatMap_cons, hf, List.take_succ_cons]; rfl
          | 1, ht, _, hl =>
            match xs, hl, ho, hf with
            | x :: xs, hl, ho, hf =>
              refine ⟨.un a x :: xs, by simp only [List.length_cons] at hl ⊢; omega, fun y hy => ?_, ?_⟩
              · rcases List.mem_cons.1 hy with rfl | hy
                · exact ⟨ht, ho x (by simp)⟩
                · exact ho y (by simp [hy])
              · rw [List.flatMap_cons] at hf ⊢
                rw [List.take_succ_cons, ← hf]; rfl
          | 2, ht, _, hl =>
            match xs, hl, ho, hf with
            | [x], hl, ho, hf => simp at hl
            | x :: y :: xs, hl, ho, hf =>
              refine ⟨.bin a x y :: xs, by simp only [List.length_cons] at hl ⊢; omega, fun z hz => ?_, ?_⟩
              · rcases List.mem_cons.1 hz with rfl | hz
                · exact ⟨ht, ho x (by simp), ho y (by simp)⟩
                · exact ho z (by simp [hz])
              · rw [List.flatMap_cons, List.flatMap_cons] at hf
                rw [List.flatMap_cons, List.take_succ_cons, ← hf]
                simp [Ex.flat]
theorem endC_tree {l : List Nod} {k : Nat} (h : endC 0 l = some k) : ∃ x : Ex, x.ok ∧ x.flat = l.take k ∧ x.size = k := by
  obtain ⟨xs, hl, ho, hf⟩ := endC_trees l 0 k h
  match xs, hl, ho, hf with
  | [x], _, ho, hf =>
    have hk := endC_le l 0 k h
    have e : x.flat = l.take k := by simpa using hf
    refine ⟨x, ho x (by simp), e, ?_⟩
    rw [← flat_len, e, List.length_take]; omega

/-! ### From nodes back to the expression. -/
def readN : Nat → List Nod → Option (Ex × List Nod)
  | 0, _ => none
  | _ + 1, [] => none
  | f + 1, a :: r => match takesN a.op with
    | some 0 => some (.leaf a, r)
    | some 1 => match readN f r with
      | some (x, r1) => some (.un a x, r1)
      | none => none
    | some 2 => match readN f r with
      | some (x, r1) => match readN f r1 with
        | some (y, r2) => some (.bin a x y, r2)
        | none => none
      | none => none
    | _ => none
theorem readN_flat (x : Ex) : ∀ (f : Nat) (r : List Nod), x.ok → x.size ≤ f → readN f (x.flat ++ r) = some (x, r) := by
  induction x with
  | leaf a =>
    intro f r h hf
    cases f with
    | zero => simp [Ex.size] at hf
    | succ f => show readN (f + 1) (a :: r) = _; rw [readN, show takesN a.op = some 0 from h]; rfl
  | un a x ih =>
    intro f r h hf
    cases f with
    | zero => simp [Ex.size] at hf
    | succ f =>
      show readN (f + 1) (a :: (x.flat ++ r)) = _
      rw [readN, h.1]
      simp only
      rw [ih f r h.2 (by simp [Ex.size] at hf; omega)]
  | bin a x y ih1 ih2 =>
    intro f r h hf
    cases f with
    | zero => simp [Ex.size] at hf
    | succ f =>
      show readN (f + 1) (a :: (x.flat ++ y.flat ++ r)) = _
      rw [readN, h.1]
      simp only
      rw [List.append_assoc, ih1 f _ h.2.1 (by simp [Ex.size] at hf; omega)]
      simp only
      rw [ih2 f r h.2.2 (by simp [Ex.size] at hf; omega)]
theorem readN_back : ∀ (f : Nat) (l : List Nod) (x : Ex) (r : List Nod), readN f l = some (x, r) → x.ok ∧ l = x.flat ++ r := by
  intro f
  induction f with
  | zero => intro l x r h; cases h
  | succ f ih =>
    intro l x r h
    cases l with
    | nil => cases h
    | cons a l =>
      unfold readN at h
      split at h
      · rename_i ht
        simp at h; obtain ⟨rfl, rfl⟩ := h
        exact ⟨ht, rfl⟩
      · rename_i ht
        split at h
        · rename_i x1 r1 h1
          simp at h; obtain ⟨rfl, rfl⟩ := h
          obtain ⟨i1, rfl⟩ := ih _ _ _ h1
          exact ⟨⟨ht, i1⟩, rfl⟩
        · cases h
      · rename_i ht
        split at h
        · rename_i x1 r1 h1
          split at h
          · rename_i y1 r2 h2
            simp at h; obtain ⟨rfl, rfl⟩ := h
            obtain ⟨i1, rfl⟩ := ih _ _ _ h1
            obtain ⟨i2, rfl⟩ := ih _ _ _ h2
            exact ⟨⟨ht, i1, i2⟩, by simp [Ex.flat]⟩
          · cases h
        · cases h
      · cases h
/-- The expression that nodes are, if they are one. -/
def wholeT (L : List Nod) : Option Ex := match readN L.length L with
  | some (x, []) => some x
  | _ => none
theorem whole_flat {x : Ex} (h : x.ok) : wholeT x.flat = some x := by
  unfold wholeT
  have := readN_flat x x.flat.length [] h (by rw [flat_len]; exact Nat.le_refl _)
  rw [List.append_nil] at this
  rw [this]
theorem whole_some {L : List Nod} {x : Ex} (h : wholeT L = some x) : x.ok ∧ L = x.flat := by
  unfold wholeT at h
  split at h
  · rename_i y hy
    simp at h; subst h
    have := readN_back _ _ _ _ hy
    simpa using this
  · cases h
theorem end_whole {L : List Nod} {x : Ex} (h : wholeT L = some x) : endV L 0 = L.length := by
  obtain ⟨ho, rfl⟩ := whole_some h
  have := endC_flat x [] ho
  rw [List.append_nil] at this
  unfold endV
  rw [if_neg (by omega)]
  show (match endC 0 (x.flat.drop 0) with | some k => (0 : Int) + k | none => -1) = _
  rw [List.drop_zero, this, flat_len]; simp
theorem end_not {L : List Nod} (h : wholeT L = none) : endV L 0 ≠ L.length := by
  intro e
  unfold endV at e
  rw [if_neg (by omega)] at e
  simp only [Int.toNat_zero, List.drop_zero] at e
  cases hc : endC 0 L with
  | none => rw [hc] at e; simp only at e; omega
  | some k =>
    rw [hc] at e; simp only at e
    obtain ⟨x, ho, hf, _⟩ := endC_tree hc
    rw [List.take_of_length_le (by omega)] at hf
    rw [← hf, whole_flat ho] at h; cases h

/-! ### Where expressions end, in steps. -/
theorem endV_neg {L : List Nod} {i : Int} (h : i < 0) : endV L i = -1 := by unfold endV; rw [if_pos h]
theorem endV_out {L : List Nod} {i : Int} (h : (L.length : Int) ≤ i) : endV L i = -1 := by
  unfold endV
  split
  · rfl
  · rw [List.drop_eq_nil_of_le (by omega)]; rfl
theorem endV_nat (L : List Nod) (i : Nat) : endV L i = match endC 0 (L.drop i) with | some k => ((i + k : Nat) : Int) | none => -1 := by
  unfold endV
  rw [if_neg (by omega), Int.toNat_natCast]
  cases endC 0 (L.drop i) <;> simp
theorem drop_cons {L : List Nod} {i : Nat} {a : Nod} (h : L[i]? = some a) : L.drop i = a :: L.drop (i + 1) := by
  obtain ⟨hi, e⟩ := List.getElem?_eq_some_iff.1 h
  rw [List.drop_eq_getElem_cons hi, e]
theorem endV_none {L : List Nod} {i : Nat} {a : Nod} (h : L[i]? = some a) (ht : takesN a.op = none) : endV L i = -1 := by
  rw [endV_nat, drop_cons h, endC_none _ ht]
theorem endV_zero {L : List Nod} {i : Nat} {a : Nod} (h : L[i]? = some a) (ht : takesN a.op = some 0) : endV L i = i + 1 := by
  rw [endV_nat, drop_cons h, endC_last _ ht]; simp
theorem endV_one {L : List Nod} {i : Nat} {a : Nod} (h : L[i]? = some a) (ht : takesN a.op = some 1) : endV L i = endV L (i + 1 : Nat) := by
  rw [endV_nat, drop_cons h, endC_more _ ht (by omega), endV_nat]
  show (match Option.map _ (endC 0 (L.drop (i + 1))) with | some k => ((i + k : Nat) : Int) | none => -1) = _
  cases endC 0 (L.drop (i + 1)) with
  | none => rfl
  | some k => show ((i + (k + 1) : Nat) : Int) = ((i + 1 + k : Nat) : Int); omega
theorem endV_two {L : List Nod} {i : Nat} {a : Nod} (h : L[i]? = some a) (ht : takesN a.op = some 2) : endV L i = if endV L (i + 1 : Nat) < 0 then -1 else endV L (endV L (i + 1 : Nat)) := by
  rw [endV_nat L i, drop_cons h, endC_more _ ht (by omega), endV_nat L (i + 1)]
  show (match Option.map _ (endC (0 + 0 + 1) (L.drop (i + 1))) with | some k => ((i + k : Nat) : Int) | none => -1) = _
  rw [endC_join 0 _ 0]
  cases h1 : endC 0 (L.drop (i + 1)) with
  | none => rfl
  | some k =>
    show (match Option.map _ (Option.map _ (endC 0 ((L.drop (i + 1)).drop k))) with | some k => ((i + k : Nat) : Int) | none => -1) = if ((i + 1 + k : Nat) : Int) < 0 then -1 else endV L (i + 1 + k : Nat)
    rw [if_neg (by omega), endV_nat, List.drop_drop]
    cases endC 0 (L.drop (i + 1 + k)) with
    | none => rfl
    | some j => show ((i + (j + k + 1) : Nat) : Int) = ((i + 1 + k + j : Nat) : Int); omega
theorem endV_range (L : List Nod) (i : Int) : endV L i = -1 ∨ (0 ≤ i ∧ i < endV L i ∧ endV L i ≤ L.length) := by
  by_cases h : i < 0
  · exact .inl (endV_neg h)
  · obtain ⟨k, rfl⟩ : ∃ k : Nat, i = k := ⟨i.toNat, by omega⟩
    rw [endV_nat]
    cases hc : endC 0 (L.drop k) with
    | none => exact .inl rfl
    | some j =>
      have := endC_le _ _ _ hc
      rw [List.length_drop] at this
      right
      simp only
      omega
end Go.Proofs.YtpeohfgadnfnpaaGreatDoor
