/-
  DERIVED. Layer 3: contracts of scan.has, scan.Is and scan.Place.
-/
import Derived.Test.YtcmbcbdijmknnaaDoorBase
import Derived.Test.YtcmbcbdijmknnaaDoorKept
namespace Go.Proofs.YtcmbcbdijmknnaaDoor
open Go.RowKit

theorem has_any (v : Value) (L : List Tok) (i : Int) (w : World) (h : ReadT w v L) : Calls Tryd.prog 57 #[v, .int .i64 i] w (Tells (decide (0 ≤ i ∧ i < L.length)) w) := by
  obtain ⟨A, c, rfl, hc, hr⟩ := h
  clear hr
  by_cases h0 : 0 ≤ i
  · by_cases h1 : i < L.length
    · go_enter Tryd.func57, Tryd.ntmps57
      go_wp2_with fail
      go_ret
      exact ⟨ret_bool (by simp [h0, h1]), rfl⟩
    · go_enter Tryd.func57, Tryd.ntmps57
      go_wp2_with fail
      go_ret
      exact ⟨ret_bool (by simp [h1]), rfl⟩
  · go_enter Tryd.func57, Tryd.ntmps57
    go_wp2_with fail
    go_ret
    exact ⟨ret_bool (by simp; omega), rfl⟩
theorem has_yes (v : Value) (L : List Tok) (i : Int) (w : World) (h : ReadT w v L) (h0 : 0 ≤ i) (h1 : i < L.length) : Calls Tryd.prog 57 #[v, .int .i64 i] w (Tells true w) := by
  have := has_any v L i w h
  rwa [show decide (0 ≤ i ∧ i < L.length) = true from by simp [h0, h1]] at this
theorem has_no (v : Value) (L : List Tok) (i : Int) (w : World) (h : ReadT w v L) (h0 : ¬ (0 ≤ i ∧ i < L.length)) : Calls Tryd.prog 57 #[v, .int .i64 i] w (Tells false w) := by
  have := has_any v L i w h
  rwa [show decide (0 ≤ i ∧ i < L.length) = false from by simpa using h0] at this

set_option maxRecDepth 100000 in
set_option maxHeartbeats 2000000 in
theorem is_any (v : Value) (L : List Tok) (i : Int) (s : ByteArray) (w : World) (h : ReadT w v L) : Calls Tryd.prog 67 #[v, .int .i64 i, .string s] w (TellsB (isB L i s.data.toList) w) := by
  by_cases hi : 0 ≤ i ∧ i < L.length
  · obtain ⟨k, rfl⟩ : ∃ k : Nat, i = (k : Int) := ⟨i.toNat, by omega⟩
    have hk : k < L.length := by omega
    have ha : L[k]? = some L[k] := List.getElem?_eq_getElem hk
    generalize L[k] = a at *
    have HR : Hid (isB L k s.data.toList = ((a.kind == 1 || a.kind == 3) && a.text == s.data.toList)) := Lib.hid (by unfold isB; rw [Int.toNat_natCast, ha]; simp)
    have HH := Lib.hid h
    obtain ⟨A, c, hv, hc, hr⟩ := h
    obtain ⟨g, rfl, hg, x0, x1, x2, x3⟩ := hr k a ha
    subst hv
    clear hr ha
    have HT : Hid ((a.text == s.toList) = (a.text == s.data.toList)) := Lib.hid (by rw [ByteArray.toList_eq])
    cases e1 : (a.kind == 1) with
    | true =>
      have HE := Lib.hid e1
      go_enter Tryd.func67, Tryd.ntmps67
      go_wp2_with fail
      refine (has_yes _ L k _ HH.out (by omega) (by omega)).mono ?_
      rintro e w' ⟨rfl, rfl⟩
      go_wp2_with fail
      go_ret
      exact ⟨ret_bool (by rw [HR.out, HT.out, HE.out]; simp), (Below.refl _ _).alloc (Nat.le_refl _) _⟩
    | false =>
      have HE := Lib.hid e1
      cases e2 : (a.kind == 3) with
      | true =>
        have HE2 := Lib.hid e2
        go_enter Tryd.func67, Tryd.ntmps67
        go_wp2_with fail
        refine (has_yes _ L k _ HH.out (by omega) (by omega)).mono ?_
        rintro e w' ⟨rfl, rfl⟩
        go_wp2_with fail
        go_ret
        exact ⟨ret_bool (by rw [HR.out, HT.out, HE.out, HE2.out]; simp), (Below.refl _ _).alloc (Nat.le_refl _) _⟩
      | false =>
        have HE2 := Lib.hid e2
        go_enter Tryd.func67, Tryd.ntmps67
        go_wp2_with fail
        refine (has_yes _ L k _ HH.out (by omega) (by omega)).mono ?_
        rintro e w' ⟨rfl, rfl⟩
        go_wp2_with fail
        go_ret
        exact ⟨ret_bool (by rw [HR.out, HE.out, HE2.out]; simp), (Below.refl _ _).alloc (Nat.le_refl _) _⟩
  · have HR : Hid (isB L i s.data.toList = false) := Lib.hid (by
      unfold isB
      by_cases h0 : 0 ≤ i
      · rw [List.getElem?_eq_none (by omega)]; simp
      · simp [h0])
    have HH := Lib.hid h
    obtain ⟨A, c, rfl, hc, hr⟩ := h
    have HI := Lib.hid hi
    clear hr hi
    go_enter Tryd.func67, Tryd.ntmps67
    go_wp2_with fail
    refine (has_no _ L i _ HH.out HI.out).mono ?_
    rintro e w' ⟨rfl, rfl⟩
    go_wp2_with fail
    go_ret
    exact ⟨ret_bool HR.out.symm, Below.refl _ _⟩

/-- What a call of one number comes back with. -/
def GivesN (n : Int) (w : World) (e : Ending) (w' : World) : Prop := e = .returned (.int .i64 n) ∧ Below w.heap.size w w'
theorem givesN_of {n n' : Int} {w w' : World} {e : Ending} (he : e = .returned (.int .i64 n')) (h : n' = n) (hb : Below w.heap.size w w') : GivesN n w e w' := by
  subst h; exact ⟨he, hb⟩
set_option maxRecDepth 100000 in
set_option maxHeartbeats 2000000 in
theorem place_any (v : Value) (L : List Tok) (i : Int) (w : World) (h : ReadT w v L) (hl : L.length ≤ 10000) (hs : SmallT L) : Calls Tryd.prog 34 #[v, .int .i64 i] w (GivesN (placeV L i) w) := by
  by_cases hi : 0 ≤ i ∧ i < L.length
  · obtain ⟨k, rfl⟩ : ∃ k : Nat, i = (k : Int) := ⟨i.toNat, by omega⟩
    have hk : k < L.length := by omega
    have ha : L[k]? = some L[k] := List.getElem?_eq_getElem hk
    generalize L[k] = a at *
    have HR := Lib.hid (place_in ha)
    have HH := Lib.hid h
    obtain ⟨A, c, hv, hc, hr⟩ := h
    obtain ⟨g, rfl, hg, x0, x1, x2, x3⟩ := hr k a ha
    subst hv
    clear hr ha hs
    go_enter Tryd.func34, Tryd.ntmps34
    go_wp2_with fail
    refine (has_yes _ L k _ HH.out (by omega) (by omega)).mono ?_
    rintro e w' ⟨rfl, rfl⟩
    go_wp2_with fail
    go_ret
    exact givesN_of rfl HR.out.symm (Below.refl _ _)
  · have HI := Lib.hid hi
    by_cases h0 : L = []
    · subst h0
      have HH := Lib.hid h
      obtain ⟨A, c, rfl, hc, hr⟩ := h
      clear hr hi hs
      go_enter Tryd.func34, Tryd.ntmps34
      go_wp2_with fail
      refine (has_no _ [] i _ HH.out HI.out).mono ?_
      rintro e w' ⟨rfl, rfl⟩
      go_wp2_with fail
      go_ret
      exact givesN_of rfl (place_nil i).symm (Below.refl _ _)
    · have hpos : 0 < L.length := List.length_pos_iff.2 h0
      have hl0 : ((L.length : Int) == 0) = false := beq_eq_false_iff_ne.2 (by omega)
      have ha : L[L.length - 1]? = some (L[L.length - 1]'(by omega)) := List.getElem?_eq_getElem (by omega)
      have hsm := hs _ (List.getElem_mem (show L.length - 1 < L.length by omega))
      generalize L[L.length - 1]'(by omega) = a at *
      have HR := Lib.hid (place_out hi ha)
      have HH := Lib.hid h
      obtain ⟨A, c, hv, hc, hr⟩ := h
      obtain ⟨g, rfl, hg, x0, x1, x2, x3⟩ := hr _ a ha
      subst hv
      clear hr ha hs hi h0
      obtain ⟨n, hn⟩ : ∃ n, L.length = n + 1 := ⟨L.length - 1, by omega⟩
      have HN := Lib.hid hn
      rw [hn] at x0 x1 x2 x3 hl0 hc hl
      rw [show n + 1 - 1 = n from rfl] at x0 x1 x2 x3
      rw [show Value.slice (some ⟨g, 0, none⟩) L.length c = Value.slice (some ⟨g, 0, none⟩) (n + 1) c from by rw [hn]] at *
      clear hn hpos
      go_enter Tryd.func34, Tryd.ntmps34
      go_wp2_with fail
      refine (has_no _ L i _ HH.out HI.out).mono ?_
      rintro e w' ⟨rfl, rfl⟩
      go_wp2_with fail
      go_ret
      exact givesN_of rfl HR.out.symm ((Below.refl _ _).alloc (Nat.le_refl _) _)
end Go.Proofs.YtcmbcbdijmknnaaDoor
