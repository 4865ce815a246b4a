/-
  DERIVED. Texts of the walk, packed: RefSign, RAmong.
-/
import Derived.Test.YtpeohfgadnfnpaaGreatDoorQ08
import Derived.Test.YtpeohfgadnfnpaaGreatDoorQ03
/-
  DERIVED. Layer 3: the contract of the sign of the reader that the laws take tokens from.
-/
namespace Go.Proofs.YtpeohfgadnfnpaaGreatDoor
open Go.RowKit

def twoTab : List (List UInt8) := [[61, 61], [33, 61], [60, 61], [38, 38], [124, 124]]
def oneL : List UInt8 := [40, 41, 123, 125, 59, 44, 61, 60, 33, 43, 45, 42, 47, 37]
/-- How many bytes the sign has with which a text begins. -/
def signLen (l : List UInt8) : Nat := match signOf l with
  | some t => t.length
  | none => 0
theorem two_two : ∀ t ∈ twoTab, t.length = 2 := by decide
theorem rsign_two {l : List UInt8} (h : twoTab.any (fun t => t.isPrefixOf l) = true) : signLen l = 2 := by
  rw [List.any_eq_true] at h
  have hs : (signOf l).isSome ∧ ∀ t, signOf l = some t → t.length = 2 := by
    unfold signOf
    rw [show signTab = twoTab ++ oneL.map (fun c => [c]) from rfl, List.find?_append]
    obtain ⟨t, ht, hp⟩ := h
    cases hf : twoTab.find? (fun t => t.isPrefixOf l) with
    | none =>
      rw [List.find?_eq_none] at hf
      exact absurd hp (hf t ht)
    | some x =>
      refine ⟨rfl, fun y hy => ?_⟩
      have e : x = y := Option.some.inj hy
      subst e
      exact two_two _ (List.mem_of_find?_eq_some hf)
  unfold signLen
  cases hx : signOf l with
  | none => rw [hx] at hs; exact absurd hs.1 (by simp)
  | some t => exact hs.2 t hx
theorem sign_not_two {c : UInt8} {r : List UInt8} (h : twoTab.any (fun t => t.isPrefixOf (c :: r)) = false) : signOf (c :: r) = (oneL.find? (fun d => d == c)).map (fun d => [d]) := by
  unfold signOf
  rw [show signTab = twoTab ++ oneL.map (fun c => [c]) from rfl, List.find?_append]
  have hf : twoTab.find? (fun t => t.isPrefixOf (c :: r)) = none := by
    rw [List.find?_eq_none]
    rw [List.any_eq_false] at h
    exact h
  rw [hf, Option.none_or, List.find?_map]
  congr 1
  congr 1
  funext d
  simp [List.isPrefixOf]
theorem rsign_one {c : UInt8} {r : List UInt8} (h : twoTab.any (fun t => t.isPrefixOf (c :: r)) = false) (h1 : oneL.any (fun d => d == c) = true) : signLen (c :: r) = 1 := by
  unfold signLen
  rw [sign_not_two h]
  cases hf : oneL.find? (fun d => d == c) with
  | none =>
    rw [List.find?_eq_none] at hf
    rw [List.any_eq_true] at h1
    obtain ⟨d, hd, e⟩ := h1
    exact absurd e (hf d hd)
  | some d => rfl
theorem sign_none {c : UInt8} {r : List UInt8} (h : twoTab.any (fun t => t.isPrefixOf (c :: r)) = false) (h1 : oneL.any (fun d => d == c) = false) : signLen (c :: r) = 0 := by
  unfold signLen
  rw [sign_not_two h]
  have hf : oneL.find? (fun d => d == c) = none := by
    rw [List.find?_eq_none]
    rw [List.any_eq_false] at h1
    exact h1
  rw [hf]; rfl
def twoVals : Array Value := #[.string ⟨#[61, 61]⟩, .string ⟨#[33, 61]⟩, .string ⟨#[60, 61]⟩, .string ⟨#[38, 38]⟩, .string ⟨#[124, 124]⟩]
theorem two_get {k : Nat} (hk : k < 5) : twoTab[k]? = some (twoTab.getD k []) := by
  rw [List.getD_eq_getElem?_getD, List.getElem?_eq_getElem (show k < twoTab.length from hk)]; rfl
theorem two_short : ∀ t ∈ twoTab, t.length ≤ 2 := by decide
theorem two_cell (w : World) : (∀ k, k < 5 → (w.alloc (.cells twoVals 9)).cell? ⟨w.heap.size, k, none⟩ = some (.string ⟨(twoTab.getD k []).toArray⟩)) ∧ Below w.heap.size w (w.alloc (.cells twoVals 9)) := by
  refine ⟨fun k hk => ?_, (Below.refl _ _).alloc (Nat.le_refl _) _⟩
  rw [cell_of_row (w.alloc (.cells twoVals 9)) w.heap.size k twoVals 9 (0, 0) (heap_alloc_new w _)]
  have h : twoVals.toList = twoTab.map fun t => Value.string ⟨t.toArray⟩ := rfl
  have h1 : twoVals.toList[k]? = some (.string ⟨(twoTab.getD k []).toArray⟩) := by rw [h, List.getElem?_map, two_get hk]; rfl
  simpa using h1
theorem pany_succ {l : List UInt8} {L : List (List UInt8)} {k : Nat} {t : List UInt8} (ht : L[k]? = some t) (h : (L.take k).any (fun t => t.isPrefixOf l) = false) (hp : t.isPrefixOf l = false) : (L.take (k + 1)).any (fun t => t.isPrefixOf l) = false := by
  rw [List.take_add_one, ht, List.any_append, h]; simp; simpa using hp
theorem pany_hit {l : List UInt8} {L : List (List UInt8)} {k : Nat} {t : List UInt8} (ht : L[k]? = some t) (hp : t.isPrefixOf l = true) : L.any (fun t => t.isPrefixOf l) = true := by
  rw [List.any_eq_true]; exact ⟨t, List.mem_of_getElem? ht, hp⟩
theorem cany_succ {c d : UInt8} {L : List UInt8} {k : Nat} (ht : L[k]? = some d) (h : (L.take k).any (fun d => d == c) = false) (hp : d ≠ c) : (L.take (k + 1)).any (fun d => d == c) = false := by
  rw [List.take_add_one, ht, List.any_append, h]; simpa using hp
theorem cany_hit {c d : UInt8} {L : List UInt8} {k : Nat} (ht : L[k]? = some d) (hp : d = c) : L.any (fun d => d == c) = true := by
  rw [List.any_eq_true]; exact ⟨d, List.mem_of_getElem? ht, by simp [hp]⟩

set_option maxRecDepth 100000 in
set_option maxHeartbeats 4000000 in
theorem rsign_any (s : ByteArray) (k : Nat) (w : World) (hs : s.size ≤ 100000) (hk : k < s.size) : Calls Tryz.prog 43 #[.string s, .int .i64 k] w (GivesN (signLen (s.data.toList.drop k)) w) := by
  have hT := two_cell w
  have hO : ∀ O : ByteArray, O = ⟨#[40, 41, 123, 125, 59, 44, 61, 60, 33, 43, 45, 42, 47, 37]⟩ → O.size = 14 ∧ O.data.toList = oneL := by intro O h; subst h; exact ⟨rfl, rfl⟩
  have HO := Lib.hid hO
  have HD := Lib.hid (drop_at s k hk)
  clear hO
  go_enter Tryz.func43, Tryz.ntmps43
  go_wp2_with fail
  change Code.wp _ _ _ _ (w.alloc (.cells twoVals 9))
  generalize w.alloc (.cells twoVals 9) = W at *
  generalize hOO : (ByteArray.mk #[40, 41, 123, 125, 59, 44, 61, 60, 33, 43, 45, 42, 47, 37]) = O at *
  obtain ⟨hO14, hOL⟩ := HO.out O rfl
  have HOL := Lib.hid hOL
  have HO14 := Lib.hid hO14
  have ho1 : O.size ≤ 14 := by omega
  have ho2 : 14 ≤ O.size := by omega
  have HT := Lib.hid hT.1
  have HB := Lib.hid hT.2
  clear hOO hOL hO14 HO hT
  go_loop [7] (fun i => ∃ j : Nat, j ≤ 5 ∧ i = .int .i64 j ∧ (twoTab.take j).any (fun t => t.isPrefixOf (s.data.toList.drop k)) = false) (fun i => 5 - (intOf i).toNat)
  case atStart => exact ⟨0, Nat.zero_le _, rfl, rfl⟩
  case round =>
    obtain ⟨j, hj, rfl, ha⟩ := hrel
    have HA := Lib.hid ha
    clear ha
    by_cases hlt : j < 5
    · have hc := HT.out j hlt
      have HG := Lib.hid (two_get hlt)
      have hsh := two_short _ (List.mem_of_getElem? HG.out)
      generalize twoTab.getD j [] = t at *
      cases hp : t.isPrefixOf (s.data.toList.drop k) with
      | true =>
        have HR := Lib.hid (rsign_two (pany_hit HG.out hp))
        have HP := Lib.hid hp
        clear hp
        go_wp2_with fail
        refine (begins_any s ⟨t.toArray⟩ k _ hs (by omega) (by show t.toArray.size ≤ 100; simp; omega)).mono ?_
        rw [show (ByteArray.mk t.toArray).data.toList = t from by simp, HP.out]
        rintro e w' ⟨rfl, rfl⟩
        go_wp2_with fail
        go_ret
        exact givesN_of rfl (by rw [HR.out]; rfl) HB.out
      | false =>
        have HR := Lib.hid (pany_succ HG.out HA.out hp)
        have HP := Lib.hid hp
        clear hp
        go_wp2_with fail
        refine (begins_any s ⟨t.toArray⟩ k _ hs (by omega) (by show t.toArray.size ≤ 100; simp; omega)).mono ?_
        rw [show (ByteArray.mk t.toArray).data.toList = t from by simp, HP.out]
        rintro e w' ⟨rfl, rfl⟩
        go_wp2_with fail
        go_round
        case rel => exact ⟨j + 1, by omega, by go_num, HR.out⟩
        case measure => simp [intOf]; omega
    · obtain rfl : j = 5 := by omega
      have H2 : Hid (twoTab.any (fun t => t.isPrefixOf (s.data.toList.drop k)) = false) := Lib.hid HA.out
      clear hlt
      go_wp2_with fail
      go_loopw [8] (fun i wr => ∃ j n : Nat, j ≤ 14 ∧ i = .int .i64 j ∧ wr = W.drewN n ∧ (oneL.take j).any (fun d => d == (s[k]'hk)) = false) (fun i _ => 14 - (intOf i).toNat)
      case atStart => exact ⟨0, 0, Nat.zero_le _, rfl, rfl, rfl⟩
      case round =>
        obtain ⟨j, n, hj, rfl, rfl, ha⟩ := hrel
        have HA2 := Lib.hid ha
        clear ha
        by_cases hlt : j < 14
        · have hjO : j < O.size := by omega
          have HG : Hid (oneL[j]? = some (O[j]'hjO)) := Lib.hid (by rw [← HOL.out, List.getElem?_eq_getElem (by rw [len_data]; exact hjO)]; rfl)
          by_cases hq : (O[j]'hjO).toNat = (s[k]'hk).toNat
          · have hq2 : (((O[j]'hjO).toNat : Int) == ((s[k]'hk).toNat : Int)) = true := by simp [hq]
            have HR : Hid (signLen (s.data.toList.drop k) = 1) := Lib.hid (by
              have h2 := H2.out
              rw [HD.out] at h2 ⊢
              exact rsign_one h2 (cany_hit HG.out (UInt8.toNat_inj.1 hq)))
            clear hq
            go_wp2_with fail
            go_quiet (fail)
            go_wp2_with fail
            go_ret
            exact givesN_of rfl (by rw [HR.out]; rfl) (below_then HB.out (below_drews _ _ _))
          · have hq2 : (((O[j]'hjO).toNat : Int) == ((s[k]'hk).toNat : Int)) = false := beq_eq_false_iff_ne.2 (by omega)
            have HS := Lib.hid (cany_succ HG.out HA2.out (fun e => hq (by rw [e])))
            clear hq
            go_wp2_with fail
            go_quiet (fail)
            go_wp2_with fail
            go_roundw
            case rel => exact ⟨j + 1, _, by omega, by go_num, rfl, HS.out⟩
            case measure => simp [intOf]; omega
        · obtain rfl : j = 14 := by omega
          have HR : Hid (signLen (s.data.toList.drop k) = 0) := Lib.hid (by
            have h2 := H2.out
            rw [HD.out] at h2 ⊢
            exact sign_none h2 HA2.out)
          go_wp2_with fail
          go_ret
          exact givesN_of rfl (by rw [HR.out]; rfl) (below_then HB.out (below_drew1 _ _))
end Go.Proofs.YtpeohfgadnfnpaaGreatDoor
/-
  DERIVED. Layer 4: the contract of the document's among: is a letter one of some?
-/
namespace Go.Proofs.YtpeohfgadnfnpaaGreatDoor
open Go.RowKit

theorem any_take_succ (s : ByteArray) (c : UInt8) (k : Nat) (hk : k < s.size) (h : (s.data.toList.take k).any (fun x => x == c) = false) (hq : ¬ (s[k]'hk).toNat = c.toNat) : (s.data.toList.take (k + 1)).any (fun x => x == c) = false := by
  rw [take_snoc s k hk, List.any_append, h]
  have : ((s[k]'hk) == c) = false := by
    rw [beq_eq_false_iff_ne]; intro e; exact hq (by rw [e])
  simp [this]
theorem any_take_hit (s : ByteArray) (c : UInt8) (k : Nat) (hk : k < s.size) (hq : (s[k]'hk).toNat = c.toNat) : s.data.toList.any (fun x => x == c) = true := by
  have e : (s[k]'hk) = c := UInt8.toNat_inj.1 hq
  have hm : (s[k]'hk) ∈ s.data.toList := by
    have : s.data.toList[k]? = some (s[k]'hk) := by rw [List.getElem?_eq_getElem (by rw [len_data]; exact hk)]; rfl
    exact List.mem_of_getElem? this
  rw [List.any_eq_true]
  exact ⟨_, hm, by rw [e]; simp⟩
set_option maxHeartbeats 1000000 in
theorem ramong_any (s : ByteArray) (c : UInt8) (w : World) (hs : s.size ≤ 100) : Calls Tryz.prog 56 #[.string s, .int .u8 (c.toNat : Int)] w (Tells (s.data.toList.any (fun x => x == c)) w) := by
  obtain ⟨q, hq⟩ : ∃ q, s.data.toList.any (fun x => x == c) = q := ⟨_, rfl⟩
  rw [hq]
  have HQ := Lib.hid hq
  clear hq
  go_enter Tryz.func56, Tryz.ntmps56
  go_wp2_with fail
  go_loop [5] (fun i => ∃ k : Nat, k ≤ s.size ∧ i = .int .i64 k ∧ (s.data.toList.take k).any (fun x => x == c) = false) (fun i => s.size - (intOf i).toNat)
  case atStart => exact ⟨0, Nat.zero_le _, rfl, rfl⟩
  case round =>
    obtain ⟨k, hk, rfl, ha⟩ := hrel
    have HA := Lib.hid ha
    clear ha
    by_cases hlt : k < s.size
    · by_cases hq : (s[k]'hlt).toNat = c.toNat
      · have hq2 : (((s[k]'hlt).toNat : Int) == (c.toNat : Int)) = true := by simp [hq]
        have HR := Lib.hid (any_take_hit s c k hlt hq)
        clear hq
        go_wp2_with fail
        go_ret
        exact ⟨ret_bool (HR.out.symm.trans HQ.out), rfl⟩
      · have hq2 : (((s[k]'hlt).toNat : Int) == (c.toNat : Int)) = false := beq_eq_false_iff_ne.2 (by omega)
        have HS := Lib.hid (any_take_succ s c k hlt HA.out hq)
        clear hq
        go_wp2_with fail
        go_round
        case rel => exact ⟨k + 1, by omega, by go_num, HS.out⟩
        case measure => simp [intOf]; omega
    · have HS : Hid (s.data.toList.any (fun x => x == c) = false) := Lib.hid (by
        have := HA.out
        rwa [List.take_of_length_le (by rw [len_data]; omega)] at this)
      go_wp2_with fail
      go_ret
      exact ⟨ret_bool (HS.out.symm.trans HQ.out), rfl⟩
theorem ramong_has (k : Int) (c : UInt8) (w : World) : Calls Tryz.prog 56 #[.string ⟨(hasL k).toArray⟩, .int .u8 (c.toNat : Int)] w (Tells (hasC k c) w) := by
  have h1 : ∀ k : Fin 15, (hasTab.getD k.1 []).length ≤ 4 := by decide
  have h2 : (hasL k).length ≤ 4 := by
    unfold hasL
    split
    · exact h1 ⟨k.toNat, by omega⟩
    · simp
  have := ramong_any ⟨(hasL k).toArray⟩ c w (by show (hasL k).toArray.size ≤ 100; simp; omega)
  simpa [hasC] using this
end Go.Proofs.YtpeohfgadnfnpaaGreatDoor
