/-
  DERIVED. Layer 3: contract of the document's Names (leadlineref03).
-/
import Derived.Test.YtcmbcbdijmknnaaDoorRefRight
import Derived.Test.YtcmbcbdijmknnaaDoorNames
import Derived.Test.YtcmbcbdijmknnaaDoorLeaf
namespace Go.Proofs.YtcmbcbdijmknnaaDoor
open Go.RowKit

def seenB (a : Nod) (acc : List (List UInt8)) (j : Nat) : Bool := !(a.op == 2) || hasB (acc.take j) a.name
theorem seen_zero (a : Nod) (acc : List (List UInt8)) : seenB a acc 0 = !(a.op == 2) := by simp [seenB, hasB]
theorem seen_stay {a : Nod} {acc : List (List UInt8)} {j : Nat} {t : List UInt8} (ht : acc[j]? = some t) (h : seenB a acc j = true) : seenB a acc (j + 1) = true := by
  unfold seenB at *
  rw [Bool.or_eq_true] at *
  rcases h with h | h
  · exact .inl h
  · right
    unfold hasB at *
    rw [List.take_add_one, ht]
    simp only [List.contains_eq_mem, decide_eq_true_eq, List.mem_append] at *
    exact .inl h
theorem seen_next {a : Nod} {acc : List (List UInt8)} {j : Nat} {t : List UInt8} (ht : acc[j]? = some t) (h : seenB a acc j = false) : seenB a acc (j + 1) = (t == a.name) := by
  unfold seenB at *
  rw [Bool.or_eq_false_iff] at h
  rw [h.1, Bool.false_or]
  unfold hasB at *
  rw [List.take_add_one, ht]
  have h2 := h.2
  simp only [List.contains_eq_mem, decide_eq_false_iff_not] at h2
  cases e : (t == a.name) with
  | true =>
    simp at e; subst e
    simp
  | false =>
    simp at e
    simp [h2]
    intro h3; exact e h3.symm
theorem seen_all (a : Nod) (acc : List (List UInt8)) : addName acc a = if seenB a acc acc.length = true then acc else acc ++ [a.name] := by
  unfold seenB addName
  rw [List.take_length]
  by_cases h : a.op = 2
  · cases h2 : hasB acc a.name <;> simp [h]
  · simp [h]
theorem fresh_strs (w : World) : OwnS (w.alloc (.cells #[] 9)) w.heap.size (.slice (some ⟨w.heap.size, 0, none⟩) 0 0) [] :=
  ⟨rfl, .inr ⟨w.heap.size, 0, #[], rfl, Nat.le_refl _, heap_alloc_new w _, by decide, by decide, rfl, rfl⟩⟩

set_option maxRecDepth 100000 in
set_option maxHeartbeats 8000000 in
theorem rnames_any (v : Value) (L : List Nod) (w : World) (h : ReadN w v L) (hl : L.length ≤ 10000) (hs : SmallN L) : Calls Tryd.prog 25 #[v] w (GivesS1 (namesL L) w) := by
  obtain ⟨i0, hi, hz0, hz1, hz2⟩ := info_parts info9
  have HZ := Lib.hid (show Tryd.prog.info? 9 = some i0 ∧ i0.zero = some (.string ⟨#[]⟩) ∧ i0.size = 1 ∧ i0.bytes = 16 from ⟨hi, hz0, hz1, hz2⟩)
  clear hi hz0 hz1 hz2
  have HR := Lib.hid h
  have HS := Lib.hid hs
  obtain ⟨A, c, rfl, hc, hm, _⟩ := h
  clear hs
  cases hr : rightL L with
  | false =>
    have HQ : Hid (namesL L = []) := Lib.hid (by unfold namesL; rw [hr]; rfl)
    have HH := Lib.hid hr
    have hb0 := (Below.refl w.heap.size w).alloc (Nat.le_refl _) (.cells #[] 9)
    have HB0 := Lib.hid hb0
    clear hr hb0
    go_enter Tryd.func25, Tryd.ntmps25
    go_wp2_with fail
    go_loopw [3, 4] (fun u i wr => i = .int .i64 0 ∧ u = .slice (some ⟨w.heap.size, 0, none⟩) 0 0 ∧ wr = w.alloc (.cells #[] 9)) (fun _ _ _ => 0)
    case atStart => exact ⟨rfl, rfl, rfl⟩
    case round =>
      obtain ⟨rfl, rfl, rfl⟩ := hrel
      by_cases h0 : 0 < L.length
      · have f1 : (0 : Int) < (L.length : Int) := by omega
        go_wp2_with fail
        refine (rright_any _ L _ (HR.out.on HB0.out) hl HS.out).mono ?_
        rw [HH.out]
        rintro e w1 ⟨rfl, hb⟩
        have HB1 := Lib.hid (below_then HB0.out hb)
        have HO := Lib.hid ((fresh_strs w).on hb)
        clear hb
        go_wp2_with fail
        go_ret
        exact ⟨_, rfl, by rw [HQ.out]; exact HO.out, HB1.out⟩
      · have f1 : ¬ (0 : Int) < (L.length : Int) := by omega
        have f2 : decide ((0 : Int) < (L.length : Int)) = false := decide_eq_false f1
        have f3 : decide (0 < L.length) = false := decide_eq_false h0
        go_wp2_with fail
        go_ret
        exact ⟨_, rfl, by rw [HQ.out]; exact fresh_strs w, HB0.out⟩
  | true =>
    have HQ : Hid (namesL L = namesOf L) := Lib.hid (by unfold namesL; rw [hr]; rfl)
    have HH := Lib.hid hr
    clear hr
    go_enter Tryd.func25, Tryd.ntmps25
    go_wp2_with fail
    go_loopw [3, 4] (fun u i wr => ∃ k : Nat, k ≤ L.length ∧ i = .int .i64 k ∧ OwnS wr w.heap.size u (namesOf (L.take k)) ∧ Below w.heap.size w wr) (fun _ i _ => L.length - (intOf i).toNat)
    case atStart => exact ⟨0, Nat.zero_le _, rfl, fresh_strs w, (Below.refl _ _).alloc (Nat.le_refl _) _⟩
    case round =>
      obtain ⟨k, hk, rfl, hown, hbel⟩ := hrel
      have HO := Lib.hid hown
      have HB := Lib.hid hbel
      have hnl := names_len (L.take k)
      rw [List.length_take] at hnl
      clear hown hbel
      by_cases hlt : k < L.length
      · have f1 : (k : Int) < (L.length : Int) := by omega
        have hat : L[k]? = some L[k] := List.getElem?_eq_getElem hlt
        have HN := Lib.hid (names_succ hat)
        generalize L[k] = a at *
        generalize namesOf (L.take k) = acc at *
        obtain ⟨AU, cU, rfl, hcU, _⟩ := HO.out.read
        go_wp2_with fail
        refine (rright_any _ L _ (HR.out.on HB.out) hl HS.out).mono ?_
        rw [HH.out]
        rintro e w1 ⟨rfl, hb⟩
        replace HO := Lib.hid (HO.out.on hb)
        replace HB := Lib.hid (below_then HB.out hb)
        clear hb
        obtain ⟨A', c', hv', _, _, hr'⟩ := HR.out.on HB.out
        obtain ⟨rfl, rfl⟩ : A = A' ∧ c = c' := by simp only [Value.slice.injEq] at hv'; exact ⟨hv'.1, hv'.2.2⟩
        obtain ⟨g, o, rfl, hg, x0, x1, x2, x3⟩ := hr' k a hat
        clear hr' hv' hat x1 x3
        have HA := Lib.hid (seen_all a acc)
        have h0s := seen_zero a acc
        go_wp2_with fail
        go_loopw [5, 6] (fun b j wr => ∃ q : Nat, q ≤ acc.length ∧ j = .int .i64 q ∧ b = .bool (seenB a acc q) ∧ Below w1.heap.size w1 wr) (fun _ j _ => acc.length - (intOf j).toNat)
        case atStart => exact ⟨0, Nat.zero_le _, rfl, by rw [h0s]; rfl, Below.refl _ _⟩
        case round =>
          obtain ⟨q, hq, rfl, rfl, hbel⟩ := hrel
          have HB2 := Lib.hid hbel
          have y0 := (hbel.cell (p := ⟨g, o + k * 4, none⟩) hg).trans x0
          have y2 := (hbel.cell (p := ⟨g, o + k * 4 + 2, none⟩) hg).trans x2
          by_cases hql : q < acc.length
          · have hqt : acc[q]? = some acc[q] := List.getElem?_eq_getElem hql
            generalize acc[q] = t at *
            obtain ⟨A2, c2, hv2, _, hr2⟩ := (HO.out.on hbel).read
            obtain ⟨rfl, rfl⟩ : AU = A2 ∧ cU = c2 := by simp only [Value.slice.injEq] at hv2; exact ⟨hv2.1, hv2.2.2⟩
            obtain ⟨g2, rfl, hg2, z0⟩ := hr2 q t hqt
            have f2 : (q : Int) < (acc.length : Int) := by omega
            cases hsn : seenB a acc q with
            | true =>
              have HNX := Lib.hid (seen_stay hqt hsn)
              clear hr2 hv2 hqt hbel hsn h0s
              go_wp2_with fail
              go_quiet (fail)
              go_wp2_with fail
              go_roundw
              case rel => exact ⟨q + 1, by omega, by go_num, by rw [HNX.out], HB2.out.trans (below_anyN _ _ _)⟩
              case measure => simp [intOf]; omega
            | false =>
              have HNX := Lib.hid (seen_next hqt hsn)
              clear hr2 hv2 hqt hbel hsn h0s
              cases hta : (t == a.name) with
              | true =>
                rw [hta] at HNX
                go_wp2_with fail
                go_quiet (fail)
                go_wp2_with fail
                go_roundw
                case rel => exact ⟨q + 1, by omega, by go_num, by rw [HNX.out], HB2.out.trans (below_anyN _ _ _)⟩
                case measure => simp [intOf]; omega
              | false =>
                rw [hta] at HNX
                go_wp2_with fail
                go_quiet (fail)
                go_wp2_with fail
                go_roundw
                case rel => exact ⟨q + 1, by omega, by go_num, by rw [HNX.out], HB2.out.trans (below_anyN _ _ _)⟩
                case measure => simp [intOf]; omega
          · obtain rfl : q = acc.length := by omega
            have hsz := HB2.out.size
            have f2 : ¬ (acc.length : Int) < (acc.length : Int) := by omega
            cases hsn : seenB a acc acc.length with
            | true =>
              have HX : Hid (addName acc a = acc) := Lib.hid (by rw [HA.out, if_pos hsn])
              clear hsn hbel h0s
              go_wp2_with fail
              go_roundw
              case rel => exact ⟨k + 1, by omega, by go_num, by rw [HN.out, HX.out]; exact HO.out.on HB2.out, below_then HB.out HB2.out⟩
              case measure => simp [intOf]; omega
            | false =>
              have HX : Hid (addName acc a = acc ++ [a.name]) := Lib.hid (by rw [HA.out, if_neg (by rw [hsn]; decide)])
              have HO2 := Lib.hid (HO.out.on HB2.out)
              have HB3 := Lib.hid (below_then HB.out HB2.out)
              have hsz2 := HB3.out.size
              clear hsn hbel h0s
              go_wp2_with (at_builtin; refine wpList_append_own _ rfl (.tmp 45) (.tmp 51) 41 rfl w.heap.size 9 i0 (.string ⟨#[]⟩) 1 16 Tryd.underlying41 HZ.out.1 HZ.out.2.1 HZ.out.2.2.1 HZ.out.2.2.2 rfl (by decide) _ acc.length (strVals acc) rfl ?cO ⟨wr.heap.size, 0, none⟩ 1 1 [.string ⟨a.name.toArray⟩] rfl rfl ?c1 ?c2 ?c3 ?c4 ?c5 ?_)
              case cO => exact HO2.out.alloc _
              case c2 => rfl
              case c3 => unfold maxLen; omega
              case c4 => omega
              case c5 => omega
              intro v' w3 hown' hgrow _
              have HO' : Hid (OwnS w3 w.heap.size v' (acc ++ [a.name])) := Lib.hid (by unfold OwnS; rw [strVals_snoc, List.length_append]; exact hown')
              have HB' : Hid (Below w.heap.size w w3) := Lib.hid ((HB3.out.alloc hsz2 _).grown hgrow (by simp; omega) (ownS_block HO2.out))
              clear hown' hgrow y0 y2
              go_wp2_with fail
              go_roundw
              case rel => exact ⟨k + 1, by omega, by go_num, by rw [HN.out, HX.out]; exact HO'.out, HB'.out⟩
              case measure => simp [intOf]; omega
      · have HE : Hid (namesOf (L.take k) = namesL L) := Lib.hid (by rw [HQ.out, List.take_of_length_le (by omega)])
        have f1 : ¬ (k : Int) < (L.length : Int) := by omega
        have f2 : decide ((k : Int) < (L.length : Int)) = false := decide_eq_false f1
        have f3 : decide (k < L.length) = false := decide_eq_false hlt
        go_wp2_with fail
        go_ret
        exact ⟨_, rfl, by rw [← HE.out]; exact HO.out, HB.out⟩
end Go.Proofs.YtcmbcbdijmknnaaDoor
