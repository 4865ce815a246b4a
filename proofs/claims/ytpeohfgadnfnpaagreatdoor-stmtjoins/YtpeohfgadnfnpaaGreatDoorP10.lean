/-
  DERIVED. Texts of the walk, packed: RefKept, RefEnd, RHas.
-/
import Derived.Test.YtpeohfgadnfnpaaGreatDoorP03
import Derived.Test.YtpeohfgadnfnpaaGreatDoorP06
import Derived.Test.YtpeohfgadnfnpaaGreatDoorP09
/-
  DERIVED. Layer 3: contracts of those that the laws hold Kept and Name against.
-/
namespace Go.Proofs.YtpeohfgadnfnpaaGreatDoor
open Go.RowKit

def keptVals : Array Value := #[.string ⟨#[108, 105, 110, 101]⟩, .string ⟨#[118, 111, 108]⟩, .string ⟨#[108, 111, 99, 107]⟩, .string ⟨#[116, 104, 114, 101, 97, 100]⟩, .string ⟨#[114, 101, 103]⟩, .string ⟨#[108, 111, 97, 100]⟩, .string ⟨#[115, 116, 111, 114, 101]⟩, .string ⟨#[99, 97, 115]⟩, .string ⟨#[102, 108, 117, 115, 104]⟩, .string ⟨#[111, 112, 116]⟩, .string ⟨#[115, 102, 101, 110, 99, 101]⟩, .string ⟨#[109, 102, 101, 110, 99, 101]⟩, .string ⟨#[116, 97, 107, 101]⟩, .string ⟨#[103, 105, 118, 101]⟩, .string ⟨#[105, 102]⟩, .string ⟨#[101, 108, 115, 101]⟩, .string ⟨#[108, 111, 111, 112]⟩, .string ⟨#[98, 114, 101, 97, 107]⟩, .string ⟨#[99, 104, 101, 99, 107]⟩, .string ⟨#[114, 101, 99, 111, 118, 101, 114]⟩, .string ⟨#[97, 108, 119, 97, 121, 115]⟩]
theorem kept_len : keptTab.length = 21 := rfl
theorem kept_get {k : Nat} (hk : k < 21) : keptTab[k]? = some (keptTab.getD k []) := by
  rw [List.getD_eq_getElem?_getD, List.getElem?_eq_getElem (show k < keptTab.length from hk)]; rfl
theorem kept_vals : keptVals.toList = keptTab.map fun t => Value.string ⟨t.toArray⟩ := rfl
theorem kept_cell (w : World) : (∀ k, k < 21 → (w.alloc (.cells keptVals 9)).cell? ⟨w.heap.size, k, none⟩ = some (.string ⟨(keptTab.getD k []).toArray⟩)) ∧ Below w.heap.size w (w.alloc (.cells keptVals 9)) := by
  refine ⟨fun k hk => ?_, (Below.refl _ _).alloc (Nat.le_refl _) _⟩
  rw [cell_of_row (w.alloc (.cells keptVals 9)) w.heap.size k keptVals 9 (0, 0) (heap_alloc_new w _)]
  have h := kept_vals
  have h1 : keptVals.toList[k]? = some (.string ⟨(keptTab.getD k []).toArray⟩) := by rw [h, List.getElem?_map, kept_get hk]; rfl
  simpa using h1
theorem any_succ {l : List UInt8} {L : List (List UInt8)} {k : Nat} {t : List UInt8} (ht : L[k]? = some t) (h : (L.take k).any (fun t => t == l) = false) (hp : (t == l) = false) : (L.take (k + 1)).any (fun t => t == l) = false := by
  rw [List.take_add_one, ht, List.any_append, h]; simp; simpa using hp
theorem any_hit {l : List UInt8} {L : List (List UInt8)} {k : Nat} {t : List UInt8} (ht : L[k]? = some t) (hp : (t == l) = true) : L.any (fun t => t == l) = true := by
  rw [List.any_eq_true]; exact ⟨t, List.mem_of_getElem? ht, hp⟩

set_option maxHeartbeats 2000000 in
theorem rkept_any (s : ByteArray) (w : World) : Calls Tryz.prog 90 #[.string s] w (TellsB (keptB s.data.toList) w) := by
  have hk := kept_cell w
  go_enter Tryz.func90, Tryz.ntmps90
  go_wp2_with fail
  change Code.wp _ _ _ _ (w.alloc (.cells keptVals 9))
  generalize w.alloc (.cells keptVals 9) = W at *
  have HK := Lib.hid hk.1
  have HB := Lib.hid hk.2
  clear hk
  go_loop [4] (fun i => ∃ k : Nat, k ≤ 21 ∧ i = .int .i64 k ∧ (keptTab.take k).any (fun t => t == s.data.toList) = false) (fun i => 21 - (intOf i).toNat)
  case atStart => exact ⟨0, Nat.zero_le _, rfl, rfl⟩
  case round =>
    obtain ⟨k, hk, rfl, ha⟩ := hrel
    have HA := Lib.hid ha
    clear ha
    by_cases hlt : k < 21
    · have hc := HK.out k hlt
      have HG := Lib.hid (kept_get hlt)
      generalize keptTab.getD k [] = t at *
      cases hp : (t == s.toList) with
      | true =>
        have HR : Hid (keptB s.data.toList = true) := Lib.hid (any_hit HG.out (by rw [← ByteArray.toList_eq]; exact hp))
        go_wp2_with fail
        go_ret
        exact ⟨ret_bool HR.out.symm, HB.out⟩
      | false =>
        have HR := Lib.hid (any_succ HG.out HA.out (by rw [← ByteArray.toList_eq]; exact hp))
        go_wp2_with fail
        go_round
        case rel => exact ⟨k + 1, by omega, by go_num, HR.out⟩
        case measure => simp [intOf]; omega
    · obtain rfl : k = 21 := by omega
      have HR : Hid (keptB s.data.toList = false) := Lib.hid HA.out
      go_wp2_with fail
      go_ret
      exact ⟨ret_bool HR.out.symm, HB.out⟩

set_option maxHeartbeats 4000000 in
theorem rname_any (s : ByteArray) (w : World) (hs : s.size ≤ 100000) : Calls Tryz.prog 57 #[.string s] w (TellsB (nameB s.data.toList) w) := by
  by_cases h0 : 0 < s.size
  · have hE := name_eq s h0
    have hz : ¬ (s.size : Int) < 1 := by omega
    by_cases h1 : s.size ≤ 16
    · have hz1 : ¬ (16 : Int) < (s.size : Int) := by omega
      cases h2 : letB (s[0]'h0) with
      | false =>
        have HR : Hid (nameB s.data.toList = false) := Lib.hid (by rw [hE, h2]; simp)
        have H2 := Lib.hid h2
        clear hE h2
        go_enter Tryz.func57, Tryz.ntmps57
        go_wp2_with fail
        refine (rletter_any _ _).mono ?_
        rw [H2.out]
        rintro e w' ⟨rfl, rfl⟩
        go_wp2_with fail
        go_ret
        exact ⟨ret_bool HR.out.symm, Below.refl _ _⟩
      | true =>
        cases h4 : keptB s.data.toList with
        | true =>
          have HR : Hid (nameB s.data.toList = false) := Lib.hid (by rw [hE, h4]; simp)
          have H2 := Lib.hid h2
          have H4 := Lib.hid h4
          clear hE h2 h4
          go_enter Tryz.func57, Tryz.ntmps57
          go_wp2_with fail
          refine (rletter_any _ _).mono ?_
          rw [H2.out]
          rintro e w' ⟨rfl, rfl⟩
          go_wp2_with fail
          refine (rkept_any s _).mono ?_
          rw [H4.out]
          rintro e w1 ⟨rfl, hb⟩
          go_wp2_with fail
          go_ret
          exact ⟨ret_bool HR.out.symm, hb⟩
        | false =>
          have HR : Hid (nameB s.data.toList = s.data.toList.all wrdB) := Lib.hid (by rw [hE, h2, h4]; simp [h1])
          have H2 := Lib.hid h2
          have H4 := Lib.hid h4
          clear hE h2 h4
          go_enter Tryz.func57, Tryz.ntmps57
          go_wp2_with fail
          refine (rletter_any _ _).mono ?_
          rw [H2.out]
          rintro e w' ⟨rfl, rfl⟩
          go_wp2_with fail
          refine (rkept_any s _).mono ?_
          rw [H4.out]
          rintro e w1 ⟨rfl, hb⟩
          go_wp2_with fail
          go_loop [3] (fun i => ∃ k : Nat, k ≤ s.size ∧ i = .int .i64 k ∧ (s.data.toList.take k).all wrdB = true) (fun i => s.size - (intOf i).toNat)
          case atStart => exact ⟨0, Nat.zero_le _, rfl, rfl⟩
          case round =>
            obtain ⟨k, hk, rfl, ha⟩ := hrel
            have HA := Lib.hid ha
            clear ha
            by_cases hlt : k < s.size
            · cases h5 : letB (s[k]'hlt) with
              | true =>
                have HS := Lib.hid (all_snoc wrdB s k hlt HA.out (wrd_let h5))
                have H5 := Lib.hid h5
                clear h5
                go_wp2_with fail
                refine (rletter_any _ _).mono ?_
                rw [H5.out]
                rintro e w' ⟨rfl, rfl⟩
                go_wp2_with fail
                go_round
                case rel => exact ⟨k + 1, by omega, by go_num, HS.out⟩
                case measure => simp [intOf]; omega
              | false =>
                cases h6 : digB (s[k]'hlt) with
                | true =>
                  have HS := Lib.hid (all_snoc wrdB s k hlt HA.out ((wrd_not h5).trans h6))
                  have H5 := Lib.hid h5
                  have H6 := Lib.hid h6
                  clear h5 h6
                  go_wp2_with fail
                  refine (rletter_any _ _).mono ?_
                  rw [H5.out]
                  rintro e w' ⟨rfl, rfl⟩
                  go_wp2_with fail
                  refine (rdigit_any _ _).mono ?_
                  rw [H6.out]
                  rintro e w' ⟨rfl, rfl⟩
                  go_wp2_with fail
                  go_round
                  case rel => exact ⟨k + 1, by omega, by go_num, HS.out⟩
                  case measure => simp [intOf]; omega
                | false =>
                  have HQ : Hid (s.data.toList.all wrdB = false) := Lib.hid (by
                    rw [List.all_eq_false]
                    exact ⟨s[k], by rw [show s[k] = s.data.toList[k]'(by rw [len_data]; exact hlt) from rfl]; exact List.getElem_mem _, by rw [wrd_not h5, h6]; simp⟩)
                  have H5 := Lib.hid h5
                  have H6 := Lib.hid h6
                  clear h5 h6
                  go_wp2_with fail
                  refine (rletter_any _ _).mono ?_
                  rw [H5.out]
                  rintro e w' ⟨rfl, rfl⟩
                  go_wp2_with fail
                  refine (rdigit_any _ _).mono ?_
                  rw [H6.out]
                  rintro e w' ⟨rfl, rfl⟩
                  go_wp2_with fail
                  go_ret
                  exact ⟨ret_bool (by rw [HR.out, HQ.out]), hb⟩
            · have hA := HA.out
              rw [take_all s k hlt] at hA
              have HQ := Lib.hid hA
              clear hA
              go_wp2_with fail
              go_ret
              exact ⟨ret_bool (by rw [HR.out, HQ.out]), hb⟩
    · have HR : Hid (nameB s.data.toList = false) := Lib.hid (by rw [hE]; simp [h1])
      have hz1 : (16 : Int) < (s.size : Int) := by omega
      clear hE
      go_enter Tryz.func57, Tryz.ntmps57
      go_wp2_with fail
      go_ret
      exact ⟨ret_bool HR.out.symm, Below.refl _ _⟩
  · have HR := Lib.hid (name_empty s (by omega))
    have hz : (s.size : Int) < 1 := by omega
    go_enter Tryz.func57, Tryz.ntmps57
    go_wp2_with fail
    go_ret
    exact ⟨ret_bool HR.out.symm, Below.refl _ _⟩
end Go.Proofs.YtpeohfgadnfnpaaGreatDoor
/-
  DERIVED. Layer 3: contracts of the document's answers (leadlineref03): End, deep, Right.
-/
namespace Go.Proofs.YtpeohfgadnfnpaaGreatDoor
open Go.RowKit

/-- Where the parts behind a node end, one after another. -/
def stepE (L : List Nod) (i : Int) : Nat → Int
  | 0 => i + 1
  | k + 1 => endV L (stepE L i k)
theorem endV_step {L : List Nod} {i t : Nat} {a : Nod} (h : L[i]? = some a) (ht : takesN a.op = some t) : endV L i = stepE L i t := by
  have h2 := takes_le ht
  match t, h2, ht with
  | 0, _, ht => rw [endV_zero h ht]; rfl
  | 1, _, ht => rw [endV_one h ht]; rfl
  | 2, _, ht =>
    rw [endV_two h ht]
    show _ = endV L (endV L ((i : Int) + 1))
    have e : endV L ((i : Int) + 1) = endV L ((i + 1 : Nat) : Int) := rfl
    rw [e]
    split
    · rename_i h0
      rw [endV_neg h0]
    · rfl
theorem step_range (L : List Nod) (i : Nat) (hi : i < L.length) : ∀ k, stepE L i k = -1 ∨ ((i : Int) < stepE L i k ∧ stepE L i k ≤ L.length)
  | 0 => .inr (by show (i : Int) < i + 1 ∧ (i : Int) + 1 ≤ L.length; omega)
  | k + 1 => by
    show endV L (stepE L i k) = -1 ∨ (_ < endV L (stepE L i k) ∧ endV L (stepE L i k) ≤ _)
    rcases step_range L i hi k with h | ⟨h1, h2⟩
    · rw [h, endV_neg (by omega)]; exact .inl rfl
    · rcases endV_range L (stepE L i k) with h | ⟨h3, h4, h5⟩
      · exact .inl h
      · right; omega

set_option maxRecDepth 100000 in
set_option maxHeartbeats 2000000 in
theorem rend_out (v : Value) (L : List Nod) (i : Int) (w : World) (h : ReadN w v L) (hi : i < 0 ∨ (L.length : Int) ≤ i) : Calls Tryz.prog 91 #[v, .int .i64 i] w (TellsI (endV L i) w) := by
  obtain ⟨A, c, rfl, hc, hm, hr⟩ := h
  clear hr
  by_cases h0 : i < 0
  · have HE := Lib.hid (endV_neg (L := L) h0)
    go_enter Tryz.func91, Tryz.ntmps91
    go_wp2_with fail
    go_ret
    exact ⟨ret_int HE.out.symm, rfl⟩
  · have h1 : (L.length : Int) ≤ i := by omega
    have HE := Lib.hid (endV_out (L := L) h1)
    go_enter Tryz.func91, Tryz.ntmps91
    go_wp2_with fail
    go_ret
    exact ⟨ret_int HE.out.symm, rfl⟩

set_option maxRecDepth 100000 in
set_option maxHeartbeats 2000000 in
theorem rend_n (v : Value) (L : List Nod) (w : World) (h : ReadN w v L) (hl : L.length ≤ 10000) : ∀ (n : Nat) (i : Int), (L.length : Int) - i ≤ n → Calls Tryz.prog 91 #[v, .int .i64 i] w (TellsI (endV L i) w) := by
  intro n
  induction n with
  | zero => intro i hi; exact rend_out v L i w h (by omega)
  | succ n ih =>
    intro i hi
    by_cases hio : i < 0 ∨ (L.length : Int) ≤ i
    · exact rend_out v L i w h hio
    · obtain ⟨k, rfl⟩ : ∃ k : Nat, i = k := ⟨i.toNat, by omega⟩
      have hk : k < L.length := by omega
      have HI := Lib.hid ih
      have HO := Lib.hid (fun i hi => rend_out v L i w h hi)
      have ha : L[k]? = some L[k] := List.getElem?_eq_getElem hk
      generalize L[k] = a at *
      obtain ⟨A, c, rfl, hc, hm, hr⟩ := h
      obtain ⟨g, o, rfl, hg, x0, x1, x2, x3⟩ := hr k a ha
      clear hr x1 x2 x3 hio ih
      have d1 : decide ((k : Int) < 0) = false := by simp
      have d2 : ¬ (L.length : Int) ≤ (k : Int) := by omega
      have d3 : decide (L.length ≤ k) = false := by simp; omega
      cases ht : takesN a.op with
      | none =>
        have HQ := Lib.hid (endV_none ha ht)
        have HT := Lib.hid (takesV_none ht)
        clear ha ht
        go_enter Tryz.func91, Tryz.ntmps91
        go_wp2_with fail
        refine (rkids_any _ _).mono ?_
        rw [HT.out]
        rintro e w' ⟨rfl, rfl⟩
        go_wp2_with fail
        go_ret
        exact ⟨ret_int HQ.out.symm, rfl⟩
      | some t =>
        have HQ := Lib.hid (endV_step ha ht)
        have HT := Lib.hid (takesV_some ht)
        have ht2 := takes_le ht
        have HS := Lib.hid (step_range L k hk)
        clear ha ht
        go_enter Tryz.func91, Tryz.ntmps91
        go_wp2_with fail
        refine (rkids_any _ _).mono ?_
        rw [HT.out]
        rintro e w' ⟨rfl, rfl⟩
        go_wp2_with fail
        go_loop [5, 6] (fun to j => ∃ m : Nat, m ≤ t ∧ j = .int .i64 m ∧ to = .int .i64 (stepE L k m)) (fun _ j => t - (intOf j).toNat)
        case atStart => exact ⟨0, Nat.zero_le _, rfl, by show _ = Value.int .i64 ((k : Int) + 1); go_num⟩
        case round =>
          obtain ⟨m, hm2, rfl, rfl⟩ := hrel
          by_cases hlt : m < t
          · have hs := HS.out m
            have HNX : Hid (stepE L k (m + 1) = endV L (stepE L k m)) := Lib.hid rfl
            by_cases hneg : stepE L k m < 0
            · have HR : Hid (endV L k = stepE L k m) := Lib.hid (by
                have h1 : stepE L k m = -1 := by omega
                have h2 : ∀ q, stepE L k (m + q) = -1 := by
                  intro q
                  induction q with
                  | zero => exact h1
                  | succ q ih => show endV L (stepE L k (m + q)) = -1; rw [ih]; exact endV_neg (by omega)
                rw [HQ.out, show t = m + (t - m) from by omega, h2, h1])
              generalize stepE L k m = to at *
              clear HNX
              have f1 : (m : Int) < (t : Int) := by omega
              have f2 : ¬ (0 : Int) ≤ to := by omega
              have f3 : decide ((0 : Int) ≤ to) = false := by simp; omega
              go_wp2_with fail
              refine (rkids_any _ _).mono ?_
              rw [HT.out]
              rintro e w' ⟨rfl, rfl⟩
              go_wp2_with fail
              go_ret
              exact ⟨ret_int HR.out.symm, rfl⟩
            · generalize stepE L k m = to at *
              have f1 : (m : Int) < (t : Int) := by omega
              have f2 : (0 : Int) ≤ to := by omega
              go_wp2_with fail
              refine (rkids_any _ _).mono ?_
              rw [HT.out]
              rintro e w' ⟨rfl, rfl⟩
              go_wp2_with fail
              refine (HI.out to (by omega)).mono ?_
              rintro e w' ⟨rfl, rfl⟩
              go_wp2_with fail
              go_round
              case rel => exact ⟨m + 1, by omega, by go_num, by rw [HNX.out]⟩
              case measure => simp [intOf]; omega
          · obtain rfl : m = t := by omega
            generalize hst : stepE L k m = to at *
            have f1 : ¬ (m : Int) < (m : Int) := by omega
            go_wp2_with fail
            refine (rkids_any _ _).mono ?_
            rw [HT.out]
            rintro e w' ⟨rfl, rfl⟩
            go_wp2_with fail
            go_ret
            exact ⟨ret_int HQ.out.symm, rfl⟩
theorem rend_any (v : Value) (L : List Nod) (i : Int) (w : World) (h : ReadN w v L) (hl : L.length ≤ 10000) : Calls Tryz.prog 91 #[v, .int .i64 i] w (TellsI (endV L i) w) :=
  rend_n v L w h hl ((L.length : Int) - i).toNat i (by omega)

/-- Where a part of an expression lies among nodes. -/
theorem kid_lies {L : List Nod} {i : Nat} {x y : Ex} {d r : List Ex} {r0 : List Nod} (h : L.drop i = x.flat ++ r0) (hk : x.kids = d ++ y :: r) : ∃ r1, L.drop (i + (1 + sizes d)) = y.flat ++ r1 := by
  refine ⟨r.flatMap Ex.flat ++ r0, ?_⟩
  rw [← List.drop_drop, h, List.drop_append_of_le_length, kid_next hk, List.append_assoc]
  rw [flat_len, size_kids, hk, sizes_app]; omega
theorem lies_end {L : List Nod} {i : Nat} {y : Ex} {r : List Nod} (h : L.drop i = y.flat ++ r) (ho : y.ok) : endV L i = ((i + y.size : Nat) : Int) := by
  rw [endV_nat, h, endC_flat y _ ho]
theorem lies_len {L : List Nod} {i : Nat} {y : Ex} {r : List Nod} (h : L.drop i = y.flat ++ r) : i + y.size ≤ L.length := by
  have := congrArg List.length h
  rw [List.length_drop, List.length_append, flat_len] at this
  have := size_pos y
  omega
theorem lies_top {L : List Nod} {i : Nat} {y : Ex} {r : List Nod} (h : L.drop i = y.flat ++ r) : L[i]? = some y.top := by
  rw [flat_kids] at h
  have := congrArg (fun l => l[0]?) h
  simpa using this

set_option maxRecDepth 100000 in
set_option maxHeartbeats 2000000 in
theorem rdeep_any : ∀ (n : Nat) (x : Ex) (v : Value) (L : List Nod) (i : Nat) (r : List Nod) (w : World), x.size ≤ n → x.ok → ReadN w v L → L.length ≤ 10000 → L.drop i = x.flat ++ r → Calls Tryz.prog 92 #[v, .int .i64 i] w (TellsI x.deep w) := by
  intro n
  induction n with
  | zero => intro x v L i r w h; have := size_pos x; omega
  | succ n ih =>
    intro x v L i r w hs ho h hl hd
    have hat := lies_top hd
    have hil := lies_len hd
    have HH := Lib.hid h
    obtain ⟨A, c, rfl, hc, hm, hr⟩ := h
    obtain ⟨g, o, rfl, hg, x0, _, _, _⟩ := hr i x.top hat
    have HT := Lib.hid (takesV_some (ok_kids ho).2)
    have HK := Lib.hid (ok_kids ho).1
    have HI := Lib.hid ih
    have HDR := Lib.hid hd
    have HSZ := Lib.hid (size_kids x)
    have HD := Lib.hid (deep_kids x)
    have hk2 := takes_le (ok_kids ho).2
    have hxp := size_pos x
    have hlt0 : i < L.length := by omega
    clear hr ih hd hat ho
    go_enter Tryz.func92, Tryz.ntmps92
    go_wp2_with fail
    go_loop [5, 6, 7] (fun d t k => ∃ done rest : List Ex, ∃ q : Nat, x.kids = done ++ rest ∧ deeps done = q + 1 ∧ d = .int .i64 q ∧ t = .int .i64 (i + (1 + sizes done) : Nat) ∧ k = .int .i64 done.length ∧ q ≤ 10000) (fun _ _ k => x.kids.length - (intOf k).toNat)
    case atStart => exact ⟨[], x.kids, 0, rfl, rfl, rfl, by simp [sizes], rfl, by decide⟩
    case round =>
      obtain ⟨done, rest, q, hk, hq, rfl, rfl, rfl, hq2⟩ := hrel
      have HQ := Lib.hid hq
      have hkl : x.kids.length = done.length + rest.length := by rw [hk, List.length_append]
      clear hq
      cases rest with
      | nil =>
        have HX : Hid ((x.deep : Int) = (q : Int) + 1) := Lib.hid (by rw [HD.out, hk, List.append_nil, HQ.out]; omega)
        have HT2 : Hid (takesV x.top.op = (done.length : Int)) := Lib.hid (by rw [HT.out, hk]; simp)
        clear hk hkl
        generalize done.length = m at *
        have f1 : ¬ (m : Int) < (m : Int) := by omega
        go_wp2_with fail
        refine (rkids_any _ _).mono ?_
        rw [HT2.out]
        rintro e w' ⟨rfl, rfl⟩
        go_wp2_with fail
        go_ret
        exact ⟨ret_int HX.out.symm, rfl⟩
      | cons y rest =>
        have hoy : y.ok := HK.out y (by rw [hk]; simp)
        obtain ⟨r1, hr1⟩ := kid_lies HDR.out hk
        have HL := Lib.hid hr1
        have HE := Lib.hid (lies_end hr1 hoy)
        have hyl := lies_len hr1
        have HY := Lib.hid hoy
        have HT2 : Hid (takesV x.top.op = (done.length : Int) + 1 + (rest.length : Int)) := Lib.hid (by rw [HT.out, hk]; simp; omega)
        have HK2 : Hid (x.kids = (done ++ [y]) ++ rest) := Lib.hid (by rw [hk]; simp)
        have HS := Lib.hid (deeps_snoc done y)
        have HZ : Hid (sizes (done ++ [y]) = sizes done + y.size) := Lib.hid (by rw [sizes_app]; simp [sizes])
        have HYS : Hid (y.size ≤ n) := Lib.hid (by have := HSZ.out; rw [hk, sizes_app, sizes_cons] at this; omega)
        have HLE : Hid ((done ++ [y]).length = done.length + 1) := Lib.hid (by simp)
        have hdy := deep_size y
        simp only [List.length_cons] at hkl
        clear hk hr1 hoy
        generalize hm2 : done.length = m at *
        have HM := Lib.hid hm2
        clear hm2
        generalize rest.length = rl at *
        have f1 : (m : Int) < (m : Int) + 1 + (rl : Int) := by omega
        generalize htt : i + (1 + sizes done) = tt at *
        have HTT := Lib.hid htt
        clear htt
        go_wp2_with fail
        refine (rkids_any _ _).mono ?_
        rw [HT2.out]
        rintro e w' ⟨rfl, rfl⟩
        go_wp2_with fail
        refine (HI.out y _ L tt r1 _ HYS.out HY.out HH.out hl HL.out).mono ?_
        rintro e w' ⟨rfl, rfl⟩
        go_wp2_with fail
        all_goals
          refine (rend_any _ L tt _ HH.out hl).mono ?_
          rw [HE.out]
          rintro e w' ⟨rfl, rfl⟩
          go_wp2_with fail
          go_round
          case rel => exact ⟨done ++ [y], rest, max q y.deep, HK2.out, by rw [HS.out, HQ.out]; omega, by congr 1; omega, by rw [HZ.out, ← HTT.out]; congr 1; omega, by rw [HLE.out]; congr 1, by omega⟩
          case measure => simp [intOf]; omega
end Go.Proofs.YtpeohfgadnfnpaaGreatDoor
/-
  DERIVED. Layer 4: contracts of the document's Has, Word and among.
-/
namespace Go.Proofs.YtpeohfgadnfnpaaGreatDoor
open Go.RowKit

set_option maxRecDepth 100000 in
set_option maxHeartbeats 4000000 in
theorem rhas_any (k : Int) (w : World) : Calls Tryz.prog 23 #[.int .i64 k] w (GivesSB (hasL k) w) := by
  by_cases h1 : k < 1
  · have hv : hasL k = [] := by unfold hasL; rw [if_neg (by omega)]
    rw [hv]
    go_enter Tryz.func23, Tryz.ntmps23
    go_wp2_with fail
    go_ret
    exact ⟨rfl, Below.refl _ _⟩
  · by_cases h2 : 14 < k
    · have hv : hasL k = [] := by unfold hasL; rw [if_neg (by omega)]
      rw [hv]
      go_enter Tryz.func23, Tryz.ntmps23
      go_wp2_with fail
      go_ret
      exact ⟨rfl, Below.refl _ _⟩
    · have hk : k = 1 ∨ k = 2 ∨ k = 3 ∨ k = 4 ∨ k = 5 ∨ k = 6 ∨ k = 7 ∨ k = 8 ∨ k = 9 ∨ k = 10 ∨ k = 11 ∨ k = 12 ∨ k = 13 ∨ k = 14 := by omega
      clear h1 h2
      rcases hk with rfl | rfl | rfl | rfl | rfl | rfl | rfl | rfl | rfl | rfl | rfl | rfl | rfl | rfl
      all_goals
        go_enter Tryz.func23, Tryz.ntmps23
        go_wp2_with fail
        go_ret
        exact ⟨rfl, (Below.refl _ _).alloc (Nat.le_refl _) _⟩
set_option maxRecDepth 100000 in
set_option maxHeartbeats 4000000 in
theorem rword_any (k : Nat) (w : World) (h1 : 1 ≤ k) (h2 : k ≤ 14) : Calls Tryz.prog 69 #[.int .i64 k] w (GivesSB (kwL k) w) := by
  have hk : k = 1 ∨ k = 2 ∨ k = 3 ∨ k = 4 ∨ k = 5 ∨ k = 6 ∨ k = 7 ∨ k = 8 ∨ k = 9 ∨ k = 10 ∨ k = 11 ∨ k = 12 ∨ k = 13 ∨ k = 14 := by omega
  clear h1 h2
  rcases hk with rfl | rfl | rfl | rfl | rfl | rfl | rfl | rfl | rfl | rfl | rfl | rfl | rfl | rfl
  all_goals
    go_enter Tryz.func69, Tryz.ntmps69
    go_wp2_with fail
    go_ret
    exact ⟨rfl, (Below.refl _ _).alloc (Nat.le_refl _) _⟩
end Go.Proofs.YtpeohfgadnfnpaaGreatDoor
