/-
  DERIVED. Layer 3: contracts of those that the laws hold Is and Place against.
-/
import Derived.Test.YtcmbcbdijmknnaaDoorShow
namespace Go.Proofs.YtcmbcbdijmknnaaDoor
open Go.RowKit

theorem kinds_no {k : Int} (h1 : (k != 2) = true) (h2 : 1 ≤ k) (h3 : k ≤ 3) : (k == 1 || k == 3) = true := by
  simp at h1 ⊢; omega

set_option maxRecDepth 100000 in
set_option maxHeartbeats 4000000 in
theorem ris_any (v : Value) (L : List Tok) (i : Int) (s : ByteArray) (w : World) (h : ReadT w v L) : Calls Tryd.prog 52 #[v, .int .i64 i, .string s] w (TellsB (isB L i s.data.toList) w) := by
  by_cases hi : 0 ≤ i ∧ i < L.length
  · obtain ⟨k, rfl⟩ : ∃ k : Nat, i = (k : Int) := ⟨i.toNat, by omega⟩
    have hk : k < L.length := by omega
    have ha : L[k]? = some L[k] := List.getElem?_eq_getElem hk
    generalize L[k] = a at *
    have HR : Hid (isB L k s.data.toList = ((a.kind == 1 || a.kind == 3) && a.text == s.data.toList)) := Lib.hid (by unfold isB; rw [Int.toNat_natCast, ha]; simp)
    obtain ⟨A, c, hv, hc, hr⟩ := h
    obtain ⟨g, rfl, hg, x0, x1, x2, x3⟩ := hr k a ha
    subst hv
    clear hr ha
    cases e0 : (a.text == s.toList) with
    | false =>
      have HQ : Hid (isB L k s.data.toList = false) := Lib.hid (by rw [HR.out, ← ByteArray.toList_eq, e0, Bool.and_false])
      go_enter Tryd.func52, Tryd.ntmps52
      go_wp2_with fail
      go_ret
      exact ⟨ret_bool HQ.out.symm, Below.refl _ _⟩
    | true =>
      have HQ : Hid (isB L k s.data.toList = (a.kind == 1 || a.kind == 3)) := Lib.hid (by rw [HR.out, ← ByteArray.toList_eq, e0, Bool.and_true])
      cases e1 : (a.kind != 2) with
      | false =>
        have HK : Hid ((a.kind == 1 || a.kind == 3) = false) := Lib.hid (by simp at e1; rw [e1]; rfl)
        go_enter Tryd.func52, Tryd.ntmps52
        go_wp2_with fail
        go_ret
        exact ⟨ret_bool (by rw [HQ.out, HK.out]), Below.refl _ _⟩
      | true =>
        by_cases e2 : 1 ≤ a.kind
        · by_cases e3 : a.kind ≤ 3
          · have HK := Lib.hid (kinds_no e1 e2 e3)
            have d2 : decide (1 ≤ a.kind) = true := by simpa using e2
            have d3 : decide (a.kind ≤ 3) = true := by simpa using e3
            go_enter Tryd.func52, Tryd.ntmps52
            go_wp2_with fail
            go_ret
            exact ⟨ret_bool (by rw [HQ.out, HK.out]), Below.refl _ _⟩
          · have HK : Hid ((a.kind == 1 || a.kind == 3) = false) := Lib.hid (by simp; omega)
            go_enter Tryd.func52, Tryd.ntmps52
            go_wp2_with fail
            go_ret
            exact ⟨ret_bool (by rw [HQ.out, HK.out]), Below.refl _ _⟩
        · have HK : Hid ((a.kind == 1 || a.kind == 3) = false) := Lib.hid (by simp; omega)
          go_enter Tryd.func52, Tryd.ntmps52
          go_wp2_with fail
          go_ret
          exact ⟨ret_bool (by rw [HQ.out, HK.out]), Below.refl _ _⟩
  · have HR : Hid (isB L i s.data.toList = false) := Lib.hid (by
      unfold isB
      by_cases h0 : 0 ≤ i
      · rw [List.getElem?_eq_none (by omega)]; simp
      · simp [h0])
    obtain ⟨A, c, rfl, hc, hr⟩ := h
    clear hr
    by_cases h0 : 0 ≤ i
    · have h1 : ¬ i < (L.length : Int) := fun x => hi ⟨h0, x⟩
      clear hi
      go_enter Tryd.func52, Tryd.ntmps52
      go_wp2_with fail
      go_ret
      exact ⟨ret_bool HR.out.symm, Below.refl _ _⟩
    · clear hi
      go_enter Tryd.func52, Tryd.ntmps52
      go_wp2_with fail
      go_ret
      exact ⟨ret_bool HR.out.symm, Below.refl _ _⟩

set_option maxRecDepth 100000 in
set_option maxHeartbeats 4000000 in
theorem rplace_any (v : Value) (L : List Tok) (i : Int) (w : World) (h : ReadT w v L) (hl : L.length ≤ 10000) (hs : SmallT L) : Calls Tryd.prog 77 #[v, .int .i64 i] w (GivesN (placeV L i) w) := by
  by_cases hi : 0 ≤ i ∧ i < L.length
  · obtain ⟨k, rfl⟩ : ∃ k : Nat, i = (k : Int) := ⟨i.toNat, by omega⟩
    have hk : k < L.length := by omega
    have ha : L[k]? = some L[k] := List.getElem?_eq_getElem hk
    generalize L[k] = a at *
    have HR := Lib.hid (place_in ha)
    obtain ⟨A, c, hv, hc, hr⟩ := h
    obtain ⟨g, rfl, hg, x0, x1, x2, x3⟩ := hr k a ha
    subst hv
    clear hr ha hs
    go_enter Tryd.func77, Tryd.ntmps77
    go_wp2_with fail
    go_ret
    exact givesN_of rfl HR.out.symm (Below.refl _ _)
  · by_cases h0 : L = []
    · subst h0
      obtain ⟨A, c, rfl, hc, hr⟩ := h
      clear hr hs
      by_cases hp : 0 ≤ i
      · have h1 : ¬ i < ((([] : List Tok).length : Nat) : Int) := fun x => hi ⟨hp, x⟩
        clear hi
        go_enter Tryd.func77, Tryd.ntmps77
        go_wp2_with fail
        go_ret
        exact givesN_of rfl (place_nil i).symm (Below.refl _ _)
      · clear hi
        go_enter Tryd.func77, Tryd.ntmps77
        go_wp2_with fail
        go_ret
        exact givesN_of rfl (place_nil i).symm (Below.refl _ _)
    · have hpos : 0 < L.length := List.length_pos_iff.2 h0
      have ha : L[L.length - 1]? = some (L[L.length - 1]'(by omega)) := List.getElem?_eq_getElem (by omega)
      have hsm := hs _ (List.getElem_mem (show L.length - 1 < L.length by omega))
      generalize L[L.length - 1]'(by omega) = a at *
      have HR := Lib.hid (place_out hi ha)
      obtain ⟨A, c, hv, hc, hr⟩ := h
      obtain ⟨g, rfl, hg, x0, x1, x2, x3⟩ := hr _ a ha
      subst hv
      clear hr ha hs h0
      obtain ⟨n, hn⟩ : ∃ n, L.length = n + 1 := ⟨L.length - 1, by omega⟩
      rw [hn] at x0 x1 x2 x3 hc hl hi
      rw [show n + 1 - 1 = n from rfl] at x0 x1 x2 x3
      rw [show Value.slice (some ⟨g, 0, none⟩) L.length c = Value.slice (some ⟨g, 0, none⟩) (n + 1) c from by rw [hn]]
      clear hn hpos
      have hl0 : (((n : Int) + 1) == 0) = false := beq_eq_false_iff_ne.2 (by omega)
      have z1 : IntKind.i64.wrap ((n : Int) + 1 - 1) = (n : Int) := by rw [show (n : Int) + 1 - 1 = (n : Int) from by omega]; exact IntWalk.i64_in _ (by omega)
      have z2 : IntKind.i64.wrap ((a.pl : Int) + (a.text.length : Int)) = (a.pl : Int) + (a.text.length : Int) := IntWalk.i64_in _ (by omega)
      have b1 : (n : Int) < (n : Int) + 1 := by omega
      by_cases hp : 0 ≤ i
      · have h1 : ¬ i < ((n : Int) + 1) := fun x => hi ⟨hp, by omega⟩
        clear hi
        go_enter Tryd.func77, Tryd.ntmps77
        go_wp2_with fail
        go_quiet (fail)
        go_wp2_with fail
        go_ret
        exact givesN_of rfl HR.out.symm (below_drew1 _ _)
      · clear hi
        go_enter Tryd.func77, Tryd.ntmps77
        go_wp2_with fail
        go_quiet (fail)
        go_wp2_with fail
        go_ret
        exact givesN_of rfl HR.out.symm (below_drew1 _ _)
end Go.Proofs.YtcmbcbdijmknnaaDoor
