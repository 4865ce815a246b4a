/-
  DERIVED. Layer 3: contracts of expr.deep, expr.wrongNode, slices.ContainsFunc at it, and expr.Right.
-/
import Derived.Test.YtcmbcbdijmknnaaDoorNode
import Derived.Test.YtcmbcbdijmknnaaDoorFit
namespace Go.Proofs.YtcmbcbdijmknnaaDoor
open Go.RowKit

set_option maxRecDepth 100000 in
set_option maxHeartbeats 2000000 in
theorem deep_any : ∀ (n : Nat) (x : Ex) (v : Value) (w : World), x.size ≤ n → n ≤ 10000 → x.ok → ReadN w v x.flat → Calls Tryd.prog 37 #[v] w (TellsI x.deep w) := by
  intro n
  induction n with
  | zero => intro x v w h; have := size_pos x; omega
  | succ n ih =>
    intro x v w hs hn ho h
    obtain ⟨g, o, c, rfl, hc, hm, hg⟩ := h.addr (flat_ne x)
    have HSZ := Lib.hid (size_kids x)
    have hok := (ok_kids ho).1
    have HD := Lib.hid (deep_kids x)
    have HH := Lib.hid h
    have HI := Lib.hid ih
    have HO := Lib.hid hok
    have HL := Lib.hid (flat_len x)
    have hdz := deep_size x
    rw [flat_len] at hc ⊢
    clear ih h hok
    unfold maxLen at hm
    go_enter Tryd.func37, Tryd.ntmps37
    go_wp2_with fail
    go_loop [3, 4] (fun d f => ∃ done rest : List Ex, x.kids = done ++ rest ∧ d = .int .i64 (deeps done : Nat) ∧ f = .int .i64 (1 + sizes done : Nat) ∧ deeps done ≤ 10001) (fun _ f => x.size - (intOf f).toNat)
    case atStart => exact ⟨[], x.kids, rfl, rfl, rfl, by decide⟩
    case round =>
      obtain ⟨done, rest, hk, rfl, rfl, hd⟩ := hrel
      have HSUM : Hid (x.size = 1 + (sizes done + sizes rest)) := Lib.hid (by rw [HSZ.out, hk, sizes_app])
      cases rest with
      | nil =>
        have HX : Hid (x.deep = deeps done) := Lib.hid (by rw [HD.out, hk, List.append_nil])
        have hlt : ¬ ((1 + sizes done : Nat) : Int) < (x.size : Int) := by rw [HSUM.out]; show ¬ ((1 + sizes done : Nat) : Int) < ((1 + (sizes done + 0) : Nat) : Int); omega
        clear hk
        go_wp2_with fail
        go_ret
        exact ⟨ret_int (by rw [HX.out]), rfl⟩
      | cons y rest =>
        have hp := size_pos y
        have hle : 1 + sizes done + y.size ≤ x.size := by rw [HSUM.out, sizes_cons]; omega
        have hoy : y.ok := HO.out y (by rw [hk]; simp)
        have HE := Lib.hid (kid_end hk hoy)
        have HP := Lib.hid (kid_part hk)
        have HS := Lib.hid (deeps_snoc done y)
        have HZ : Hid (sizes (done ++ [y]) = sizes done + y.size) := Lib.hid (by rw [sizes_app]; simp [sizes])
        have HK : Hid (x.kids = (done ++ [y]) ++ rest) := Lib.hid (by rw [hk]; simp)
        have hdy := deep_size y
        have HY := Lib.hid hoy
        clear hk hoy
        have hlt : ((1 + sizes done : Nat) : Int) < (x.size : Int) := by omega
        generalize hfr : 1 + sizes done = fr at *
        have HF := Lib.hid hfr
        clear hfr
        go_wp2_with fail
        refine (end_any _ x.flat _ _ (by rw [← HL.out]; exact HH.out) (by rw [HL.out]; omega)).mono ?_
        rw [HE.out]
        rintro e w' ⟨rfl, rfl⟩
        go_wp2_with fail
        refine (HI.out y _ _ ?h1 (by omega) HY.out ?h2).mono ?_
        case h1 => have := HF.out; omega
        case h2 =>
          have hq := ReadN.part (k := fr) (to := fr + y.size) HH.out (by omega) (by rw [HL.out]; omega)
          rw [HP.out, show fr + y.size - fr = y.size from by omega] at hq
          exact hq
        rintro e w' ⟨rfl, rfl⟩
        go_wp2_with fail
        go_round
        case rel => exact ⟨done ++ [y], rest, HK.out, by rw [HS.out]; first | rfl | go_num | (congr 1; omega), by rw [HZ.out, ← HF.out]; first | rfl | (congr 1; omega), by rw [HS.out]; omega⟩
        case measure => simp [intOf]; omega

/-- A node as a value. -/
def nodV (a : Nod) : Value := .agg #[.int .i64 a.op, .int .i64 a.n, .string ⟨a.name.toArray⟩, .int .i64 a.pl]
theorem empty_cases (l : List UInt8) : (l.isEmpty = true ∧ (l == []) = true ∧ l = []) ∨ (l.isEmpty = false ∧ (l == []) = false ∧ l ≠ []) := by
  cases l with
  | nil => exact .inl ⟨rfl, rfl, rfl⟩
  | cons c l => exact .inr ⟨rfl, rfl, by simp⟩

set_option maxRecDepth 100000 in
set_option maxHeartbeats 2000000 in
theorem wrong_any (a : Nod) (w : World) (hn : a.name.length ≤ 100000) : Calls Tryd.prog 36 #[.agg #[.int .i64 a.op, .int .i64 a.n, .string ⟨a.name.toArray⟩, .int .i64 a.pl]] w (TellsB (!nodOK a) w) := by
  obtain ⟨op, n, name, pl⟩ := a
  simp only at hn ⊢
  go_enter Tryd.func36, Tryd.ntmps36
  go_wp2_with fail
  case isTrue =>
    refine (name_any ⟨name.toArray⟩ _ (by show name.toArray.size ≤ _; simpa using hn)).mono ?_
    rw [show (ByteArray.mk name.toArray).data.toList = name from by simp]
    rintro e w1 ⟨rfl, hb⟩
    have HB := Lib.hid (below_box hb)
    clear hb
    go_wp2_with fail
    go_ret
    exact ⟨ret_bool (by simp_all [nodOK]), HB.out⟩
  all_goals
    go_ret
    refine ⟨ret_bool ?_, (Below.refl _ _).alloc (Nat.le_refl _) _⟩
    simp_all [nodOK]
    try omega

/-! ### Is there a node that is wrong? -/
theorem all_succN {p : Nod → Bool} {L : List Nod} {k : Nat} {a : Nod} (h : L[k]? = some a) (ha : (L.take k).all p = true) (hp : p a = true) : (L.take (k + 1)).all p = true := by
  rw [List.take_add_one, h, List.all_append, ha]; simp [hp]
theorem any_wrong {L : List Nod} {k : Nat} {a : Nod} (h : L[k]? = some a) (hp : nodOK a = false) : L.all nodOK = false := by
  rw [List.all_eq_false]; exact ⟨a, List.mem_of_getElem? h, by simp [hp]⟩
def SmallN (L : List Nod) : Prop := ∀ a ∈ L, a.name.length ≤ 100000
/-- An index, or -1; it tells whether all nodes are right. -/
def GivesX (b : Bool) (w : World) (e : Ending) (w' : World) : Prop := ∃ n : Int, e = .returned (.int .i64 n) ∧ decide (0 ≤ n) = b ∧ Below w.heap.size w w'

set_option maxRecDepth 100000 in
set_option maxHeartbeats 2000000 in
theorem indexWrong_any (v : Value) (L : List Nod) (w : World) (h : ReadN w v L) (hl : L.length ≤ 10000) (hs : SmallN L) : Calls Tryd.prog 58 #[v, .func (.func 36) #[] #[]] w (GivesX (!L.all nodOK) w) := by
  have HS := Lib.hid hs
  have HR := Lib.hid h
  obtain ⟨A, c, hv, hc, hm, hr⟩ := h
  subst hv
  clear hr hs
  go_enter Tryd.func58, Tryd.ntmps58
  go_wp2_with fail
  go_loopw [8] (fun i wr => ∃ k : Nat, k ≤ L.length ∧ i = .int .i64 k ∧ (L.take k).all nodOK = true ∧ Below w.heap.size w wr) (fun i _ => L.length - (intOf i).toNat)
  case atStart => exact ⟨0, Nat.zero_le _, rfl, rfl, Below.refl _ _⟩
  case round =>
    obtain ⟨k, hk, rfl, ha, hb⟩ := hrel
    have HA := Lib.hid ha
    have HB := Lib.hid hb
    clear ha
    by_cases hlt : k < L.length
    · have hat : L[k]? = some L[k] := List.getElem?_eq_getElem hlt
      have hsm := HS.out _ (List.getElem_mem hlt)
      generalize L[k] = a at *
      obtain ⟨A', c', hv', _, _, hr'⟩ := HR.out.on hb
      obtain ⟨rfl, _, rfl⟩ : A = A' ∧ True ∧ c = c' := by simpa using hv'
      obtain ⟨g, o, rfl, hg, x0, x1, x2, x3⟩ := hr' k a hat
      clear hr' hv' hb
      cases hw : nodOK a with
      | true =>
        have HN := Lib.hid (all_succN hat HA.out hw)
        have HW := Lib.hid hw
        clear hat hw
        go_wp2_with fail
        refine (wrong_any a _ hsm).mono ?_
        rw [HW.out]
        rintro e w1 ⟨rfl, hb⟩
        have HB2 := Lib.hid (below_then HB.out hb)
        clear hb
        go_wp2_with fail
        go_roundw
        case rel => exact ⟨k + 1, by omega, by go_num, HN.out, HB2.out⟩
        case measure => simp [intOf]; omega
      | false =>
        have HN := Lib.hid (any_wrong hat hw)
        have HW := Lib.hid hw
        clear hat hw
        go_wp2_with fail
        refine (wrong_any a _ hsm).mono ?_
        rw [HW.out]
        rintro e w1 ⟨rfl, hb⟩
        have HB2 := Lib.hid (below_then HB.out hb)
        clear hb
        go_wp2_with fail
        go_ret
        exact ⟨k, rfl, by rw [HN.out]; simp, HB2.out⟩
    · have HN : Hid (L.all nodOK = true) := Lib.hid (by have := HA.out; rwa [List.take_of_length_le (by omega)] at this)
      clear hb
      go_wp2_with fail
      go_ret
      exact ⟨-1, rfl, by rw [HN.out]; rfl, HB.out⟩

set_option maxHeartbeats 2000000 in
theorem anyWrong_any (v : Value) (L : List Nod) (w : World) (h : ReadN w v L) (hl : L.length ≤ 10000) (hs : SmallN L) : Calls Tryd.prog 35 #[v, .func (.func 36) #[] #[]] w (TellsB (!L.all nodOK) w) := by
  have HH := Lib.hid h
  have HS := Lib.hid hs
  clear h hs
  go_enter Tryd.func35, Tryd.ntmps35
  go_wp2_with fail
  refine (indexWrong_any v L _ HH.out hl HS.out).mono ?_
  rintro e w1 ⟨n, rfl, hn, hb⟩
  have HN := Lib.hid hn
  have HB := Lib.hid hb
  clear hn hb
  go_wp2_with fail
  go_ret
  exact ⟨ret_bool HN.out, HB.out⟩

set_option maxRecDepth 100000 in
set_option maxHeartbeats 2000000 in
theorem right_any (v : Value) (L : List Nod) (w : World) (h : ReadN w v L) (hl : L.length ≤ 10000) (hs : SmallN L) : Calls Tryd.prog 17 #[v] w (TellsB (rightL L) w) := by
  have HH := Lib.hid h
  have HS := Lib.hid hs
  obtain ⟨A, c, hv, hc, hm, hr⟩ := h
  subst hv
  clear hr hs
  by_cases h40 : L.length ≤ 40
  · cases hw : wholeT L with
    | none =>
      have HE := Lib.hid (end_not hw)
      have HR : Hid (rightL L = false) := Lib.hid (by unfold rightL; rw [hw])
      obtain ⟨n, hn⟩ : ∃ n, endV L 0 = n := ⟨_, rfl⟩
      have HNN := Lib.hid hn
      have hne : (n == (L.length : Int)) = false := beq_eq_false_iff_ne.2 (by rw [← hn]; exact HE.out)
      clear hn hw
      go_enter Tryd.func17, Tryd.ntmps17
      go_wp2_with fail
      refine (end_any _ L 0 _ HH.out hl).mono ?_
      rw [HNN.out]
      rintro e w' ⟨rfl, rfl⟩
      go_wp2_with fail
      go_ret
      exact ⟨ret_bool HR.out.symm, Below.refl _ _⟩
    | some x =>
      have HE := Lib.hid (end_whole hw)
      obtain ⟨ho, hf⟩ := whole_some hw
      have HF := Lib.hid hf
      have HO := Lib.hid ho
      have HX : Hid (rightL L = (L.all nodOK && decide (x.deep ≤ 12))) := Lib.hid (by unfold rightL; rw [hw]; simp [h40])
      have hsz : x.size ≤ 40 := by rw [← flat_len, ← hf]; exact h40
      clear hw hf ho
      cases ha : L.all nodOK with
      | false =>
        have HA := Lib.hid ha
        have HR : Hid (rightL L = false) := Lib.hid (by rw [HX.out, ha]; rfl)
        clear ha
        go_enter Tryd.func17, Tryd.ntmps17
        go_wp2_with fail
        refine (end_any _ L 0 _ HH.out hl).mono ?_
        rw [HE.out]
        rintro e w' ⟨rfl, rfl⟩
        go_wp2_with fail
        refine (anyWrong_any _ L _ HH.out hl HS.out).mono ?_
        rw [HA.out]
        rintro e w1 ⟨rfl, hb⟩
        go_wp2_with fail
        go_ret
        exact ⟨ret_bool HR.out.symm, hb⟩
      | true =>
        have HA := Lib.hid ha
        have HR : Hid (rightL L = decide (x.deep ≤ 12)) := Lib.hid (by rw [HX.out, ha]; rfl)
        clear ha
        go_enter Tryd.func17, Tryd.ntmps17
        go_wp2_with fail
        refine (end_any _ L 0 _ HH.out hl).mono ?_
        rw [HE.out]
        rintro e w' ⟨rfl, rfl⟩
        go_wp2_with fail
        refine (anyWrong_any _ L _ HH.out hl HS.out).mono ?_
        rw [HA.out]
        rintro e w1 ⟨rfl, hb⟩
        have HB := Lib.hid hb
        clear hb
        go_wp2_with fail
        refine (deep_any 40 x _ _ hsz (by omega) HO.out (by rw [← HF.out]; exact HH.out.on HB.out)).mono ?_
        rintro e w' ⟨rfl, rfl⟩
        go_wp2_with fail
        go_ret
        exact ⟨ret_bool (by rw [HR.out, Bool.eq_iff_iff]; simp; omega), HB.out⟩
  · have HR : Hid (rightL L = false) := Lib.hid (by unfold rightL; cases wholeT L <;> simp [h40])
    go_enter Tryd.func17, Tryd.ntmps17
    go_wp2_with fail
    go_ret
    exact ⟨ret_bool HR.out.symm, Below.refl _ _⟩
end Go.Proofs.YtcmbcbdijmknnaaDoor
