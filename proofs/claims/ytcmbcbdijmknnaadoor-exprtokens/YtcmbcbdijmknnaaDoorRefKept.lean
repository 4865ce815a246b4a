/-
  DERIVED. Layer 3: contracts of those that the laws hold Kept and Name against.
-/
import Derived.Test.YtcmbcbdijmknnaaDoorKept
namespace Go.Proofs.YtcmbcbdijmknnaaDoor
open Go.RowKit

def keptVals : Array Value := #[.string ⟨#[108, 105, 110, 101]⟩, .string ⟨#[118, 111, 108]⟩, .string ⟨#[108, 111, 99, 107]⟩, .string ⟨#[116, 104, 114, 101, 97, 100]⟩, .string ⟨#[114, 101, 103]⟩, .string ⟨#[108, 111, 97, 100]⟩, .string ⟨#[115, 116, 111, 114, 101]⟩, .string ⟨#[99, 97, 115]⟩, .string ⟨#[102, 108, 117, 115, 104]⟩, .string ⟨#[111, 112, 116]⟩, .string ⟨#[115, 102, 101, 110, 99, 101]⟩, .string ⟨#[109, 102, 101, 110, 99, 101]⟩, .string ⟨#[116, 97, 107, 101]⟩, .string ⟨#[103, 105, 118, 101]⟩, .string ⟨#[105, 102]⟩, .string ⟨#[101, 108, 115, 101]⟩, .string ⟨#[108, 111, 111, 112]⟩, .string ⟨#[98, 114, 101, 97, 107]⟩, .string ⟨#[99, 104, 101, 99, 107]⟩, .string ⟨#[114, 101, 99, 111, 118, 101, 114]⟩, .string ⟨#[97, 108, 119, 97, 121, 115]⟩]
theorem kept_len : keptTab.length = 21 := rfl
theorem kept_get {k : Nat} (hk : k < 21) : keptTab[k]? = some (keptTab.getD k []) := by
  rw [List.getD_eq_getElem?_getD, List.getElem?_eq_getElem (show k < keptTab.length from hk)]; rfl
theorem kept_vals : keptVals.toList = keptTab.map fun t => Value.string ⟨t.toArray⟩ := rfl
theorem kept_cell (w : World) : (∀ k, k < 21 → (w.alloc (.cells keptVals 9)).cell? ⟨w.heap.size, k, none⟩ = some (.string ⟨(keptTab.getD k []).toArray⟩)) ∧ Below w.heap.size w (w.alloc (.cells keptVals 9)) := by
  refine ⟨fun k hk => ?_, (Below.refl _ _).alloc (Nat.le_refl _) _⟩
  rw [cell_of_row (w.alloc (.cells keptVals 9)) w.heap.size k keptVals 9 (0, 0) (heap_alloc_new w _)]
  have h := kept_vals
  have h1 : keptVals.toList[k]? = some (.string ⟨(keptTab.getD k []).toArray⟩) := by rw [h, List.getElem?_map, kept_get hk]; rfl
  simpa using h1
theorem any_succ {l : List UInt8} {L : List (List UInt8)} {k : Nat} {t : List UInt8} (ht : L[k]? = some t) (h : (L.take k).any (fun t => t == l) = false) (hp : (t == l) = false) : (L.take (k + 1)).any (fun t => t == l) = false := by
  rw [List.take_add_one, ht, List.any_append, h]; simp; simpa using hp
theorem any_hit {l : List UInt8} {L : List (List UInt8)} {k : Nat} {t : List UInt8} (ht : L[k]? = some t) (hp : (t == l) = true) : L.any (fun t => t == l) = true := by
  rw [List.any_eq_true]; exact ⟨t, List.mem_of_getElem? ht, hp⟩

set_option maxHeartbeats 2000000 in
theorem rkept_any (s : ByteArray) (w : World) : Calls Tryd.prog 60 #[.string s] w (TellsB (keptB s.data.toList) w) := by
  have hk := kept_cell w
  go_enter Tryd.func60, Tryd.ntmps60
  go_wp2_with fail
  change Code.wp _ _ _ _ (w.alloc (.cells keptVals 9))
  generalize w.alloc (.cells keptVals 9) = W at *
  have HK := Lib.hid hk.1
  have HB := Lib.hid hk.2
  clear hk
  go_loop [4] (fun i => ∃ k : Nat, k ≤ 21 ∧ i = .int .i64 k ∧ (keptTab.take k).any (fun t => t == s.data.toList) = false) (fun i => 21 - (intOf i).toNat)
  case atStart => exact ⟨0, Nat.zero_le _, rfl, rfl⟩
  case round =>
    obtain ⟨k, hk, rfl, ha⟩ := hrel
    have HA := Lib.hid ha
    clear ha
    by_cases hlt : k < 21
    · have hc := HK.out k hlt
      have HG := Lib.hid (kept_get hlt)
      generalize keptTab.getD k [] = t at *
      cases hp : (t == s.toList) with
      | true =>
        have HR : Hid (keptB s.data.toList = true) := Lib.hid (any_hit HG.out (by rw [← ByteArray.toList_eq]; exact hp))
        go_wp2_with fail
        go_ret
        exact ⟨ret_bool HR.out.symm, HB.out⟩
      | false =>
        have HR := Lib.hid (any_succ HG.out HA.out (by rw [← ByteArray.toList_eq]; exact hp))
        go_wp2_with fail
        go_round
        case rel => exact ⟨k + 1, by omega, by go_num, HR.out⟩
        case measure => simp [intOf]; omega
    · obtain rfl : k = 21 := by omega
      have HR : Hid (keptB s.data.toList = false) := Lib.hid HA.out
      go_wp2_with fail
      go_ret
      exact ⟨ret_bool HR.out.symm, HB.out⟩

set_option maxHeartbeats 4000000 in
theorem rname_any (s : ByteArray) (w : World) (hs : s.size ≤ 100000) : Calls Tryd.prog 38 #[.string s] w (TellsB (nameB s.data.toList) w) := by
  by_cases h0 : 0 < s.size
  · have hE := name_eq s h0
    have hz : ¬ (s.size : Int) < 1 := by omega
    by_cases h1 : s.size ≤ 16
    · have hz1 : ¬ (16 : Int) < (s.size : Int) := by omega
      cases h2 : letB (s[0]'h0) with
      | false =>
        have HR : Hid (nameB s.data.toList = false) := Lib.hid (by rw [hE, h2]; simp)
        have H2 := Lib.hid h2
        clear hE h2
        go_enter Tryd.func38, Tryd.ntmps38
        go_wp2_with fail
        refine (rletter_any _ _).mono ?_
        rw [H2.out]
        rintro e w' ⟨rfl, rfl⟩
        go_wp2_with fail
        go_ret
        exact ⟨ret_bool HR.out.symm, Below.refl _ _⟩
      | true =>
        cases h4 : keptB s.data.toList with
        | true =>
          have HR : Hid (nameB s.data.toList = false) := Lib.hid (by rw [hE, h4]; simp)
          have H2 := Lib.hid h2
          have H4 := Lib.hid h4
          clear hE h2 h4
          go_enter Tryd.func38, Tryd.ntmps38
          go_wp2_with fail
          refine (rletter_any _ _).mono ?_
          rw [H2.out]
          rintro e w' ⟨rfl, rfl⟩
          go_wp2_with fail
          refine (rkept_any s _).mono ?_
          rw [H4.out]
          rintro e w1 ⟨rfl, hb⟩
          go_wp2_with fail
          go_ret
          exact ⟨ret_bool HR.out.symm, hb⟩
        | false =>
          have HR : Hid (nameB s.data.toList = s.data.toList.all wrdB) := Lib.hid (by rw [hE, h2, h4]; simp [h1])
          have H2 := Lib.hid h2
          have H4 := Lib.hid h4
          clear hE h2 h4
          go_enter Tryd.func38, Tryd.ntmps38
          go_wp2_with fail
          refine (rletter_any _ _).mono ?_
          rw [H2.out]
          rintro e w' ⟨rfl, rfl⟩
          go_wp2_with fail
          refine (rkept_any s _).mono ?_
          rw [H4.out]
          rintro e w1 ⟨rfl, hb⟩
          go_wp2_with fail
          go_loop [3] (fun i => ∃ k : Nat, k ≤ s.size ∧ i = .int .i64 k ∧ (s.data.toList.take k).all wrdB = true) (fun i => s.size - (intOf i).toNat)
          case atStart => exact ⟨0, Nat.zero_le _, rfl, rfl⟩
          case round =>
            obtain ⟨k, hk, rfl, ha⟩ := hrel
            have HA := Lib.hid ha
            clear ha
            by_cases hlt : k < s.size
            · cases h5 : letB (s[k]'hlt) with
              | true =>
                have HS := Lib.hid (all_snoc wrdB s k hlt HA.out (wrd_let h5))
                have H5 := Lib.hid h5
                clear h5
                go_wp2_with fail
                refine (rletter_any _ _).mono ?_
                rw [H5.out]
                rintro e w' ⟨rfl, rfl⟩
                go_wp2_with fail
                go_round
                case rel => exact ⟨k + 1, by omega, by go_num, HS.out⟩
                case measure => simp [intOf]; omega
              | false =>
                cases h6 : digB (s[k]'hlt) with
                | true =>
                  have HS := Lib.hid (all_snoc wrdB s k hlt HA.out ((wrd_not h5).trans h6))
                  have H5 := Lib.hid h5
                  have H6 := Lib.hid h6
                  clear h5 h6
                  go_wp2_with fail
                  refine (rletter_any _ _).mono ?_
                  rw [H5.out]
                  rintro e w' ⟨rfl, rfl⟩
                  go_wp2_with fail
                  refine (rdigit_any _ _).mono ?_
                  rw [H6.out]
                  rintro e w' ⟨rfl, rfl⟩
                  go_wp2_with fail
                  go_round
                  case rel => exact ⟨k + 1, by omega, by go_num, HS.out⟩
                  case measure => simp [intOf]; omega
                | false =>
                  have HQ : Hid (s.data.toList.all wrdB = false) := Lib.hid (by
                    rw [List.all_eq_false]
                    exact ⟨s[k], by rw [show s[k] = s.data.toList[k]'(by rw [len_data]; exact hlt) from rfl]; exact List.getElem_mem _, by rw [wrd_not h5, h6]; simp⟩)
                  have H5 := Lib.hid h5
                  have H6 := Lib.hid h6
                  clear h5 h6
                  go_wp2_with fail
                  refine (rletter_any _ _).mono ?_
                  rw [H5.out]
                  rintro e w' ⟨rfl, rfl⟩
                  go_wp2_with fail
                  refine (rdigit_any _ _).mono ?_
                  rw [H6.out]
                  rintro e w' ⟨rfl, rfl⟩
                  go_wp2_with fail
                  go_ret
                  exact ⟨ret_bool (by rw [HR.out, HQ.out]), hb⟩
            · have hA := HA.out
              rw [take_all s k hlt] at hA
              have HQ := Lib.hid hA
              clear hA
              go_wp2_with fail
              go_ret
              exact ⟨ret_bool (by rw [HR.out, HQ.out]), hb⟩
    · have HR : Hid (nameB s.data.toList = false) := Lib.hid (by rw [hE]; simp [h1])
      have hz1 : (16 : Int) < (s.size : Int) := by omega
      clear hE
      go_enter Tryd.func38, Tryd.ntmps38
      go_wp2_with fail
      go_ret
      exact ⟨ret_bool HR.out.symm, Below.refl _ _⟩
  · have HR := Lib.hid (name_empty s (by omega))
    have hz : (s.size : Int) < 1 := by omega
    go_enter Tryd.func38, Tryd.ntmps38
    go_wp2_with fail
    go_ret
    exact ⟨ret_bool HR.out.symm, Below.refl _ _⟩
end Go.Proofs.YtcmbcbdijmknnaaDoor
