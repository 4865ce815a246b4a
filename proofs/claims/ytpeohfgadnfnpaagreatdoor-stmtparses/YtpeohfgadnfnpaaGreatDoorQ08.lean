/-
  DERIVED. Texts of the walk, packed: RefEnd, RHas, RefPart.
-/
import Derived.Test.YtpeohfgadnfnpaaGreatDoorQ05
import Derived.Test.YtpeohfgadnfnpaaGreatDoorQ07
import Derived.Test.YtpeohfgadnfnpaaGreatDoorQ02
/-
  DERIVED. Layer 3: contracts of the document's answers (leadlineref03): End, deep, Right.
-/
namespace Go.Proofs.YtpeohfgadnfnpaaGreatDoor
open Go.RowKit

/-- Where the parts behind a node end, one after another. -/
def stepE (L : List Nod) (i : Int) : Nat → Int
  | 0 => i + 1
  | k + 1 => endV L (stepE L i k)
theorem endV_step {L : List Nod} {i t : Nat} {a : Nod} (h : L[i]? = some a) (ht : takesN a.op = some t) : endV L i = stepE L i t := by
  have h2 := takes_le ht
  match t, h2, ht with
  | 0, _, ht => rw [endV_zero h ht]; rfl
  | 1, _, ht => rw [endV_one h ht]; rfl
  | 2, _, ht =>
    rw [endV_two h ht]
    show _ = endV L (endV L ((i : Int) + 1))
    have e : endV L ((i : Int) + 1) = endV L ((i + 1 : Nat) : Int) := rfl
    rw [e]
    split
    · rename_i h0
      rw [endV_neg h0]
    · rfl
theorem step_range (L : List Nod) (i : Nat) (hi : i < L.length) : ∀ k, stepE L i k = -1 ∨ ((i : Int) < stepE L i k ∧ stepE L i k ≤ L.length)
  | 0 => .inr (by show (i : Int) < i + 1 ∧ (i : Int) + 1 ≤ L.length; omega)
  | k + 1 => by
    show endV L (stepE L i k) = -1 ∨ (_ < endV L (stepE L i k) ∧ endV L (stepE L i k) ≤ _)
    rcases step_range L i hi k with h | ⟨h1, h2⟩
    · rw [h, endV_neg (by omega)]; exact .inl rfl
    · rcases endV_range L (stepE L i k) with h | ⟨h3, h4, h5⟩
      · exact .inl h
      · right; omega

set_option maxRecDepth 100000 in
set_option maxHeartbeats 2000000 in
theorem rend_out (v : Value) (L : List Nod) (i : Int) (w : World) (h : ReadN w v L) (hi : i < 0 ∨ (L.length : Int) ≤ i) : Calls Tryz.prog 91 #[v, .int .i64 i] w (TellsI (endV L i) w) := by
  obtain ⟨A, c, rfl, hc, hm, hr⟩ := h
  clear hr
  by_cases h0 : i < 0
  · have HE := Lib.hid (endV_neg (L := L) h0)
    go_enter Tryz.func91, Tryz.ntmps91
    go_wp2_with fail
    go_ret
    exact ⟨ret_int HE.out.symm, rfl⟩
  · have h1 : (L.length : Int) ≤ i := by omega
    have HE := Lib.hid (endV_out (L := L) h1)
    go_enter Tryz.func91, Tryz.ntmps91
    go_wp2_with fail
    go_ret
    exact ⟨ret_int HE.out.symm, rfl⟩

set_option maxRecDepth 100000 in
set_option maxHeartbeats 2000000 in
theorem rend_n (v : Value) (L : List Nod) (w : World) (h : ReadN w v L) (hl : L.length ≤ 10000) : ∀ (n : Nat) (i : Int), (L.length : Int) - i ≤ n → Calls Tryz.prog 91 #[v, .int .i64 i] w (TellsI (endV L i) w) := by
  intro n
  induction n with
  | zero => intro i hi; exact rend_out v L i w h (by omega)
  | succ n ih =>
    intro i hi
    by_cases hio : i < 0 ∨ (L.length : Int) ≤ i
    · exact rend_out v L i w h hio
    · obtain ⟨k, rfl⟩ : ∃ k : Nat, i = k := ⟨i.toNat, by omega⟩
      have hk : k < L.length := by omega
      have HI := Lib.hid ih
      have HO := Lib.hid (fun i hi => rend_out v L i w h hi)
      have ha : L[k]? = some L[k] := List.getElem?_eq_getElem hk
      generalize L[k] = a at *
      obtain ⟨A, c, rfl, hc, hm, hr⟩ := h
      obtain ⟨g, o, rfl, hg, x0, x1, x2, x3⟩ := hr k a ha
      clear hr x1 x2 x3 hio ih
      have d1 : decide ((k : Int) < 0) = false := by simp
      have d2 : ¬ (L.length : Int) ≤ (k : Int) := by omega
      have d3 : decide (L.length ≤ k) = false := by simp; omega
      cases ht : takesN a.op with
      | none =>
        have HQ := Lib.hid (endV_none ha ht)
        have HT := Lib.hid (takesV_none ht)
        clear ha ht
        go_enter Tryz.func91, Tryz.ntmps91
        go_wp2_with fail
        refine (rkids_any _ _).mono ?_
        rw [HT.out]
        rintro e w' ⟨rfl, rfl⟩
        go_wp2_with fail
        go_ret
        exact ⟨ret_int HQ.out.symm, rfl⟩
      | some t =>
        have HQ := Lib.hid (endV_step ha ht)
        have HT := Lib.hid (takesV_some ht)
        have ht2 := takes_le ht
        have HS := Lib.hid (step_range L k hk)
        clear ha ht
        go_enter Tryz.func91, Tryz.ntmps91
        go_wp2_with fail
        refine (rkids_any _ _).mono ?_
        rw [HT.out]
        rintro e w' ⟨rfl, rfl⟩
        go_wp2_with fail
        go_loop [5, 6] (fun to j => ∃ m : Nat, m ≤ t ∧ j = .int .i64 m ∧ to = .int .i64 (stepE L k m)) (fun _ j => t - (intOf j).toNat)
        case atStart => exact ⟨0, Nat.zero_le _, rfl, by show _ = Value.int .i64 ((k : Int) + 1); go_num⟩
        case round =>
          obtain ⟨m, hm2, rfl, rfl⟩ := hrel
          by_cases hlt : m < t
          · have hs := HS.out m
            have HNX : Hid (stepE L k (m + 1) = endV L (stepE L k m)) := Lib.hid rfl
            by_cases hneg : stepE L k m < 0
            · have HR : Hid (endV L k = stepE L k m) := Lib.hid (by
                have h1 : stepE L k m = -1 := by omega
                have h2 : ∀ q, stepE L k (m + q) = -1 := by
                  intro q
                  induction q with
                  | zero => exact h1
                  | succ q ih => show endV L (stepE L k (m + q)) = -1; rw [ih]; exact endV_neg (by omega)
                rw [HQ.out, show t = m + (t - m) from by omega, h2, h1])
              generalize stepE L k m = to at *
              clear HNX
              have f1 : (m : Int) < (t : Int) := by omega
              have f2 : ¬ (0 : Int) ≤ to := by omega
              have f3 : decide ((0 : Int) ≤ to) = false := by simp; omega
              go_wp2_with fail
              refine (rkids_any _ _).mono ?_
              rw [HT.out]
              rintro e w' ⟨rfl, rfl⟩
              go_wp2_with fail
              go_ret
              exact ⟨ret_int HR.out.symm, rfl⟩
            · generalize stepE L k m = to at *
              have f1 : (m : Int) < (t : Int) := by omega
              have f2 : (0 : Int) ≤ to := by omega
              go_wp2_with fail
              refine (rkids_any _ _).mono ?_
              rw [HT.out]
              rintro e w' ⟨rfl, rfl⟩
              go_wp2_with fail
              refine (HI.out to (by omega)).mono ?_
              rintro e w' ⟨rfl, rfl⟩
              go_wp2_with fail
              go_round
              case rel => exact ⟨m + 1, by omega, by go_num, by rw [HNX.out]⟩
              case measure => simp [intOf]; omega
          · obtain rfl : m = t := by omega
            generalize hst : stepE L k m = to at *
            have f1 : ¬ (m : Int) < (m : Int) := by omega
            go_wp2_with fail
            refine (rkids_any _ _).mono ?_
            rw [HT.out]
            rintro e w' ⟨rfl, rfl⟩
            go_wp2_with fail
            go_ret
            exact ⟨ret_int HQ.out.symm, rfl⟩
theorem rend_any (v : Value) (L : List Nod) (i : Int) (w : World) (h : ReadN w v L) (hl : L.length ≤ 10000) : Calls Tryz.prog 91 #[v, .int .i64 i] w (TellsI (endV L i) w) :=
  rend_n v L w h hl ((L.length : Int) - i).toNat i (by omega)

/-- Where a part of an expression lies among nodes. -/
theorem kid_lies {L : List Nod} {i : Nat} {x y : Ex} {d r : List Ex} {r0 : List Nod} (h : L.drop i = x.flat ++ r0) (hk : x.kids = d ++ y :: r) : ∃ r1, L.drop (i + (1 + sizes d)) = y.flat ++ r1 := by
  refine ⟨r.flatMap Ex.flat ++ r0, ?_⟩
  rw [← List.drop_drop, h, List.drop_append_of_le_length, kid_next hk, List.append_assoc]
  rw [flat_len, size_kids, hk, sizes_app]; omega
theorem lies_end {L : List Nod} {i : Nat} {y : Ex} {r : List Nod} (h : L.drop i = y.flat ++ r) (ho : y.ok) : endV L i = ((i + y.size : Nat) : Int) := by
  rw [endV_nat, h, endC_flat y _ ho]
theorem lies_len {L : List Nod} {i : Nat} {y : Ex} {r : List Nod} (h : L.drop i = y.flat ++ r) : i + y.size ≤ L.length := by
  have := congrArg List.length h
  rw [List.length_drop, List.length_append, flat_len] at this
  have := size_pos y
  omega
theorem lies_top {L : List Nod} {i : Nat} {y : Ex} {r : List Nod} (h : L.drop i = y.flat ++ r) : L[i]? = some y.top := by
  rw [flat_kids] at h
  have := congrArg (fun l => l[0]?) h
  simpa using this

set_option maxRecDepth 100000 in
set_option maxHeartbeats 2000000 in
theorem rdeep_any : ∀ (n : Nat) (x : Ex) (v : Value) (L : List Nod) (i : Nat) (r : List Nod) (w : World), x.size ≤ n → x.ok → ReadN w v L → L.length ≤ 10000 → L.drop i = x.flat ++ r → Calls Tryz.prog 92 #[v, .int .i64 i] w (TellsI x.deep w) := by
  intro n
  induction n with
  | zero => intro x v L i r w h; have := size_pos x; omega
  | succ n ih =>
    intro x v L i r w hs ho h hl hd
    have hat := lies_top hd
    have hil := lies_len hd
    have HH := Lib.hid h
    obtain ⟨A, c, rfl, hc, hm, hr⟩ := h
    obtain ⟨g, o, rfl, hg, x0, _, _, _⟩ := hr i x.top hat
    have HT := Lib.hid (takesV_some (ok_kids ho).2)
    have HK := Lib.hid (ok_kids ho).1
    have HI := Lib.hid ih
    have HDR := Lib.hid hd
    have HSZ := Lib.hid (size_kids x)
    have HD := Lib.hid (deep_kids x)
    have hk2 := takes_le (ok_kids ho).2
    have hxp := size_pos x
    have hlt0 : i < L.length := by omega
    clear hr ih hd hat ho
    go_enter Tryz.func92, Tryz.ntmps92
    go_wp2_with fail
    go_loop [5, 6, 7] (fun d t k => ∃ done rest : List Ex, ∃ q : Nat, x.kids = done ++ rest ∧ deeps done = q + 1 ∧ d = .int .i64 q ∧ t = .int .i64 (i + (1 + sizes done) : Nat) ∧ k = .int .i64 done.length ∧ q ≤ 10000) (fun _ _ k => x.kids.length - (intOf k).toNat)
    case atStart => exact ⟨[], x.kids, 0, rfl, rfl, rfl, by simp [sizes], rfl, by decide⟩
    case round =>
      obtain ⟨done, rest, q, hk, hq, rfl, rfl, rfl, hq2⟩ := hrel
      have HQ := Lib.hid hq
      have hkl : x.kids.length = done.length + rest.length := by rw [hk, List.length_append]
      clear hq
      cases rest with
      | nil =>
        have HX : Hid ((x.deep : Int) = (q : Int) + 1) := Lib.hid (by rw [HD.out, hk, List.append_nil, HQ.out]; omega)
        have HT2 : Hid (takesV x.top.op = (done.length : Int)) := Lib.hid (by rw [HT.out, hk]; simp)
        clear hk hkl
        generalize done.length = m at *
        have f1 : ¬ (m : Int) < (m : Int) := by omega
        go_wp2_with fail
        refine (rkids_any _ _).mono ?_
        rw [HT2.out]
        rintro e w' ⟨rfl, rfl⟩
        go_wp2_with fail
        go_ret
        exact ⟨ret_int HX.out.symm, rfl⟩
      | cons y rest =>
        have hoy : y.ok := HK.out y (by rw [hk]; simp)
        obtain ⟨r1, hr1⟩ := kid_lies HDR.out hk
        have HL := Lib.hid hr1
        have HE := Lib.hid (lies_end hr1 hoy)
        have hyl := lies_len hr1
        have HY := Lib.hid hoy
        have HT2 : Hid (takesV x.top.op = (done.length : Int) + 1 + (rest.length : Int)) := Lib.hid (by rw [HT.out, hk]; simp; omega)
        have HK2 : Hid (x.kids = (done ++ [y]) ++ rest) := Lib.hid (by rw [hk]; simp)
        have HS := Lib.hid (deeps_snoc done y)
        have HZ : Hid (sizes (done ++ [y]) = sizes done + y.size) := Lib.hid (by rw [sizes_app]; simp [sizes])
        have HYS : Hid (y.size ≤ n) := Lib.hid (by have := HSZ.out; rw [hk, sizes_app, sizes_cons] at this; omega)
        have HLE : Hid ((done ++ [y]).length = done.length + 1) := Lib.hid (by simp)
        have hdy := deep_size y
        simp only [List.length_cons] at hkl
        clear hk hr1 hoy
        generalize hm2 : done.length = m at *
        have HM := Lib.hid hm2
        clear hm2
        generalize rest.length = rl at *
        have f1 : (m : Int) < (m : Int) + 1 + (rl : Int) := by omega
        generalize htt : i + (1 + sizes done) = tt at *
        have HTT := Lib.hid htt
        clear htt
        go_wp2_with fail
        refine (rkids_any _ _).mono ?_
        rw [HT2.out]
        rintro e w' ⟨rfl, rfl⟩
        go_wp2_with fail
        refine (HI.out y _ L tt r1 _ HYS.out HY.out HH.out hl HL.out).mono ?_
        rintro e w' ⟨rfl, rfl⟩
        go_wp2_with fail
        all_goals
          refine (rend_any _ L tt _ HH.out hl).mono ?_
          rw [HE.out]
          rintro e w' ⟨rfl, rfl⟩
          go_wp2_with fail
          go_round
          case rel => exact ⟨done ++ [y], rest, max q y.deep, HK2.out, by rw [HS.out, HQ.out]; omega, by congr 1; omega, by rw [HZ.out, ← HTT.out]; congr 1; omega, by rw [HLE.out]; congr 1, by omega⟩
          case measure => simp [intOf]; omega
end Go.Proofs.YtpeohfgadnfnpaaGreatDoor
/-
  DERIVED. Layer 4: contracts of the document's Has, Word and among.
-/
namespace Go.Proofs.YtpeohfgadnfnpaaGreatDoor
open Go.RowKit

set_option maxRecDepth 100000 in
set_option maxHeartbeats 4000000 in
theorem rhas_any (k : Int) (w : World) : Calls Tryz.prog 23 #[.int .i64 k] w (GivesSB (hasL k) w) := by
  by_cases h1 : k < 1
  · have hv : hasL k = [] := by unfold hasL; rw [if_neg (by omega)]
    rw [hv]
    go_enter Tryz.func23, Tryz.ntmps23
    go_wp2_with fail
    go_ret
    exact ⟨rfl, Below.refl _ _⟩
  · by_cases h2 : 14 < k
    · have hv : hasL k = [] := by unfold hasL; rw [if_neg (by omega)]
      rw [hv]
      go_enter Tryz.func23, Tryz.ntmps23
      go_wp2_with fail
      go_ret
      exact ⟨rfl, Below.refl _ _⟩
    · have hk : k = 1 ∨ k = 2 ∨ k = 3 ∨ k = 4 ∨ k = 5 ∨ k = 6 ∨ k = 7 ∨ k = 8 ∨ k = 9 ∨ k = 10 ∨ k = 11 ∨ k = 12 ∨ k = 13 ∨ k = 14 := by omega
      clear h1 h2
      rcases hk with rfl | rfl | rfl | rfl | rfl | rfl | rfl | rfl | rfl | rfl | rfl | rfl | rfl | rfl
      all_goals
        go_enter Tryz.func23, Tryz.ntmps23
        go_wp2_with fail
        go_ret
        exact ⟨rfl, (Below.refl _ _).alloc (Nat.le_refl _) _⟩
set_option maxRecDepth 100000 in
set_option maxHeartbeats 4000000 in
theorem rword_any (k : Nat) (w : World) (h1 : 1 ≤ k) (h2 : k ≤ 14) : Calls Tryz.prog 69 #[.int .i64 k] w (GivesSB (kwL k) w) := by
  have hk : k = 1 ∨ k = 2 ∨ k = 3 ∨ k = 4 ∨ k = 5 ∨ k = 6 ∨ k = 7 ∨ k = 8 ∨ k = 9 ∨ k = 10 ∨ k = 11 ∨ k = 12 ∨ k = 13 ∨ k = 14 := by omega
  clear h1 h2
  rcases hk with rfl | rfl | rfl | rfl | rfl | rfl | rfl | rfl | rfl | rfl | rfl | rfl | rfl | rfl
  all_goals
    go_enter Tryz.func69, Tryz.ntmps69
    go_wp2_with fail
    go_ret
    exact ⟨rfl, (Below.refl _ _).alloc (Nat.le_refl _) _⟩
end Go.Proofs.YtpeohfgadnfnpaaGreatDoor
/-
  DERIVED. Layer 3: contracts of parts of the reader that the laws take tokens from.
-/
namespace Go.Proofs.YtpeohfgadnfnpaaGreatDoor
open Go.RowKit

theorem prefix_take (t D : List UInt8) : t.isPrefixOf D = (decide (t.length ≤ D.length) && (D.take t.length == t)) := by
  rw [Bool.eq_iff_iff]
  simp only [List.isPrefixOf_iff_prefix, Bool.and_eq_true, decide_eq_true_eq, beq_iff_eq]
  constructor
  · intro h; exact ⟨h.length_le, (List.prefix_iff_eq_take.1 h).symm⟩
  · intro h; exact List.prefix_iff_eq_take.2 h.2.symm
theorem extract_mid (s : ByteArray) (a n : Nat) : (s.extract a (a + n)).data.toList = (s.data.toList.drop a).take n := by
  rw [ByteArray.data_extract, Array.toList_extract, List.extract_eq_take_drop, Nat.add_sub_cancel_left]

set_option maxHeartbeats 1000000 in
theorem begins_any (s t : ByteArray) (k : Nat) (w : World) (hs : s.size ≤ 100000) (hk : k ≤ s.size) (ht : t.size ≤ 100) :
    Calls Tryz.prog 67 #[.string s, .int .i64 k, .string t] w (Tells (t.data.toList.isPrefixOf (s.data.toList.drop k)) w) := by
  have hP := prefix_take t.data.toList (s.data.toList.drop k)
  rw [List.length_drop, len_data, len_data, ← extract_mid] at hP
  by_cases h : k + t.size ≤ s.size
  · rw [show decide (t.size ≤ s.size - k) = true from by simp; omega, Bool.true_and] at hP
    have HP : Hid (t.data.toList.isPrefixOf (s.data.toList.drop k) = ((s.extract k (k + t.size)).toList == t.toList)) := Lib.hid (by rw [hP, ByteArray.toList_eq, ByteArray.toList_eq])
    have h1 : (k : Int) + (t.size : Int) ≤ (s.size : Int) := by omega
    clear hP
    go_enter Tryz.func67, Tryz.ntmps67
    go_wp2_with fail
    go_ret
    exact ⟨ret_bool HP.out.symm, rfl⟩
  · rw [show decide (t.size ≤ s.size - k) = false from by simp; omega, Bool.false_and] at hP
    have HP := Lib.hid hP
    have h1 : ¬ (k : Int) + (t.size : Int) ≤ (s.size : Int) := by omega
    clear hP
    go_enter Tryz.func67, Tryz.ntmps67
    go_wp2_with fail
    go_ret
    exact ⟨ret_bool HP.out.symm, rfl⟩

/-- How long the row is with which a text begins. -/
theorem while_len (p : UInt8 → Bool) (s : ByteArray) (k j : Nat) (hk : k ≤ j) (hj : j ≤ s.size) (ha : ∀ i, k ≤ i → (hi : i < j) → p (s[i]'(by omega)) = true) (he : (h : j < s.size) → p (s[j]'h) = false) :
    ((s.data.toList.drop k).takeWhile p).length = j - k := by
  obtain ⟨m, rfl⟩ : ∃ m, j = k + m := ⟨j - k, by omega⟩
  induction m generalizing k with
  | zero =>
    by_cases h : k < s.size
    · have h2 : p s[k] = false := he h
      rw [drop_at s k h, List.takeWhile_cons, if_neg (by rw [h2]; simp)]; simp
    · rw [List.drop_eq_nil_of_le (by rw [len_data]; omega)]; simp
  | succ m ih =>
    have h : k < s.size := by omega
    rw [drop_at s k h, List.takeWhile_cons, if_pos (ha k (Nat.le_refl _) (by omega)), List.length_cons]
    have := ih (k + 1) (by omega) (by omega) (fun i h1 h2 => ha i (by omega) (by omega)) (fun h => by
      have e : k + 1 + m = k + (m + 1) := by omega
      have := he (by omega)
      simp only [e]; exact this)
    rw [this]; omega
/-- What the place behind blanks and remarks is. -/
def PastIs (s : ByteArray) (a : Nat) (w : World) (e : Ending) (w' : World) : Prop :=
  ∃ k : Nat, e = .returned (.int .i64 k) ∧ w = w' ∧ a ≤ k ∧ k ≤ s.size ∧ scanL (s.data.toList.drop k) k = scanL (s.data.toList.drop a) a ∧ ((h : k < s.size) → blkB (s[k]'h) = false ∧ isRem (s.data.toList.drop k) = false)
theorem blk_not {c : UInt8} (h : blkB c = false) : ((c.toNat : Int) == 32) = false ∧ ((c.toNat : Int) == 9) = false ∧ ((c.toNat : Int) == 10) = false ∧ ((c.toNat : Int) == 13) = false := by
  unfold blkB at h
  simp at h
  simp only [beq_eq_false_iff_ne]
  omega
theorem blk_is {c : UInt8} (h : blkB c = true) : ((c.toNat : Int) == 32) = true ∨ (((c.toNat : Int) == 32) = false ∧ ((c.toNat : Int) == 9) = true) ∨ (((c.toNat : Int) == 32) = false ∧ ((c.toNat : Int) == 9) = false ∧ ((c.toNat : Int) == 10) = true) ∨
    (((c.toNat : Int) == 32) = false ∧ ((c.toNat : Int) == 9) = false ∧ ((c.toNat : Int) == 10) = false ∧ ((c.toNat : Int) == 13) = true) := by
  unfold blkB at h
  simp at h
  simp only [beq_eq_false_iff_ne, beq_iff_eq]
  omega

theorem rem_step {l : List UInt8} {k j : Nat} {c : UInt8} {R : Found} (hd : l.drop k = c :: l.drop (k + 1)) (hb : blkB c = false) (hr : isRem (l.drop k) = true) (hl : ((l.drop k).takeWhile linB).length = j - k) (hkj : k ≤ j) (hI : scanL (l.drop k) k = R) : scanL (l.drop j) j = R := by
  have e : j = k + ((l.drop k).takeWhile linB).length := by omega
  rw [← hI]
  conv => lhs; rw [e, ← List.drop_drop]
  rw [hd] at hr ⊢
  rw [scanL_rem _ _ hb hr]
theorem rem_far {l : List UInt8} {k j : Nat} {c : UInt8} (hd : l.drop k = c :: l.drop (k + 1)) (hr : isRem (l.drop k) = true) (hl : ((l.drop k).takeWhile linB).length = j - k) : k < j := by
  rw [hd] at hr hl
  have := rem_len hr
  omega

set_option maxRecDepth 100000 in
set_option maxHeartbeats 4000000 in
theorem past_any (s : ByteArray) (a : Nat) (w : World) (hs : s.size ≤ 100000) (ha : a ≤ s.size) : Calls Tryz.prog 40 #[.string s, .int .i64 a] w (PastIs s a w) := by
  go_enter Tryz.func40, Tryz.ntmps40
  go_wp2_with fail
  go_loop [1] (fun i => ∃ k : Nat, a ≤ k ∧ k ≤ s.size ∧ i = .int .i64 k ∧ scanL (s.data.toList.drop k) k = scanL (s.data.toList.drop a) a) (fun i => s.size - (intOf i).toNat)
  case atStart => exact ⟨a, Nat.le_refl _, ha, rfl, rfl⟩
  case round =>
    obtain ⟨k, hak, hk, rfl, hI⟩ := hrel
    have HI := Lib.hid hI
    clear hI
    by_cases hlt : k < s.size
    · have HD := Lib.hid (drop_at s k hlt)
      cases hb : blkB (s[k]'hlt) with
      | true =>
        have HS : Hid (scanL (s.data.toList.drop (k + 1)) (k + 1) = scanL (s.data.toList.drop a) a) := Lib.hid (by rw [← HI.out, HD.out, scanL_blank _ _ hb])
        have hcs := blk_is hb
        clear hb
        rcases hcs with h | ⟨h, h2⟩ | ⟨h, h2, h3⟩ | ⟨h, h2, h3, h4⟩
        all_goals
          go_wp2_with fail
          go_round
          case rel => exact ⟨k + 1, by omega, by omega, by go_num, HS.out⟩
          case measure => simp [intOf]; omega
      | false =>
        obtain ⟨n1, n2, n3, n4⟩ := blk_not hb
        have Hb := Lib.hid hb
        cases hr : isRem (s.data.toList.drop k) with
        | false =>
          have Hr := Lib.hid hr
          clear hb hr
          go_wp2_with fail
          refine (begins_any s ⟨#[47, 47]⟩ k _ hs hk (by decide)).mono ?_
          rw [show (ByteArray.mk #[47, 47]).data.toList.isPrefixOf (s.data.toList.drop k) = false from Hr.out]
          rintro e w' ⟨rfl, rfl⟩
          go_wp2_with fail
          go_ret
          exact ⟨k, rfl, rfl, hak, hk, HI.out, fun _ => ⟨Hb.out, Hr.out⟩⟩
        | true =>
          have Hr := Lib.hid hr
          clear hb hr
          go_wp2_with fail
          refine (begins_any s ⟨#[47, 47]⟩ k _ hs hk (by decide)).mono ?_
          rw [show (ByteArray.mk #[47, 47]).data.toList.isPrefixOf (s.data.toList.drop k) = true from Hr.out]
          rintro e w' ⟨rfl, rfl⟩
          go_wp2_with fail
          go_loop [1] (fun i => ∃ j : Nat, k ≤ j ∧ j ≤ s.size ∧ i = .int .i64 j ∧ ∀ i, k ≤ i → (hi : i < s.size) → i < j → linB (s[i]'hi) = true) (fun i => s.size - (intOf i).toNat)
          case atStart => exact ⟨k, Nat.le_refl _, hk, rfl, fun i h1 _ h2 => absurd h2 (by omega)⟩
          case round =>
            obtain ⟨j, hkj, hj, rfl, hall⟩ := hrel
            have HA := Lib.hid hall
            clear hall
            by_cases hjl : j < s.size
            · by_cases hten : (s[j]'hjl).toNat = 10
              · have hne : (((s[j]'hjl).toNat : Int) != 10) = false := by simp [hten]
                have HL := Lib.hid (while_len linB s k j hkj hj (fun i h1 h2 => HA.out i h1 (by omega) h2) (fun h => by unfold linB; simp [hten]))
                clear hten
                go_wp2_with fail
                go_round
                case rel => exact ⟨j, by omega, hj, rfl, rem_step HD.out Hb.out Hr.out HL.out hkj HI.out⟩
                case measure => have := rem_far HD.out Hr.out HL.out; simp [intOf]; omega
              · have hne : (((s[j]'hjl).toNat : Int) != 10) = true := by simp; omega
                have HS : Hid (∀ i, k ≤ i → (hi : i < s.size) → i < j + 1 → linB (s[i]'hi) = true) := Lib.hid (fun i h1 hi h2 => by
                  by_cases e : i = j
                  · subst e; unfold linB; simp [hten]
                  · exact HA.out i h1 hi (by omega))
                clear hten
                go_wp2_with fail
                go_round
                case rel => exact ⟨j + 1, by omega, by omega, by go_num, HS.out⟩
                case measure => simp [intOf]; omega
            · have HL := Lib.hid (while_len linB s k j hkj hj (fun i h1 h2 => HA.out i h1 (by omega) h2) (fun h => absurd h hjl))
              go_wp2_with fail
              go_round
              case rel => exact ⟨j, by omega, hj, rfl, rem_step HD.out Hb.out Hr.out HL.out hkj HI.out⟩
              case measure => have := rem_far HD.out Hr.out HL.out; simp [intOf]; omega
    · go_wp2_with fail
      go_ret
      exact ⟨k, rfl, rfl, hak, hk, HI.out, fun h => absurd h hlt⟩
end Go.Proofs.YtpeohfgadnfnpaaGreatDoor
