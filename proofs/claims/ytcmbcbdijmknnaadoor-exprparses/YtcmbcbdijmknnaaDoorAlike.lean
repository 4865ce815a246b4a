/-
  DERIVED. Layer 3: contracts of expr.Same, of the one that the laws hold it against, and of the laws' comparison of texts.
-/
import Derived.Test.YtcmbcbdijmknnaaDoorNames
namespace Go.Proofs.YtcmbcbdijmknnaaDoor
open Go.RowKit

/-- Lists that are alike, place by place. -/
def sameG {α : Type} (q : α → α → Bool) : List α → List α → Bool
  | [], [] => true
  | a :: l, b :: m => q a b && sameG q l m
  | _, _ => false
section
variable {α : Type} {q : α → α → Bool}
theorem sameG_len : ∀ {L M : List α}, L.length ≠ M.length → sameG q L M = false
  | [], [], h => absurd rfl h
  | [], b :: m, _ => rfl
  | a :: l, [], _ => rfl
  | a :: l, b :: m, h => by
    unfold sameG; rw [sameG_len (L := l) (M := m) (fun e => h (by simp [e]))]; simp
theorem sameG_succ : ∀ {L M : List α} {k : Nat} {a b : α}, L[k]? = some a → M[k]? = some b → sameG q (L.take (k + 1)) (M.take (k + 1)) = (sameG q (L.take k) (M.take k) && q a b)
  | [], M, k, a, b, h, _ => by simp at h
  | x :: l, [], k, a, b, _, h => by simp at h
  | x :: l, y :: m, 0, a, b, h, h2 => by
    simp at h h2; subst h; subst h2
    simp [sameG]
  | x :: l, y :: m, k + 1, a, b, h, h2 => by
    have ih := sameG_succ (L := l) (M := m) (k := k) (a := a) (b := b) (by simpa using h) (by simpa using h2)
    rw [List.take_succ_cons, List.take_succ_cons, List.take_succ_cons, List.take_succ_cons]
    unfold sameG
    rw [ih, Bool.and_assoc]
theorem sameG_no : ∀ {L M : List α} {k : Nat} {a b : α}, L[k]? = some a → M[k]? = some b → q a b = false → sameG q L M = false
  | [], M, k, a, b, h, _, _ => by simp at h
  | x :: l, [], k, a, b, _, h, _ => by simp at h
  | x :: l, y :: m, 0, a, b, h, h2, he => by
    simp at h h2; subst h; subst h2
    unfold sameG; rw [he]; rfl
  | x :: l, y :: m, k + 1, a, b, h, h2, he => by
    unfold sameG; rw [sameG_no (L := l) (M := m) (k := k) (by simpa using h) (by simpa using h2) he]; simp
theorem sameG_all {L M : List α} {k : Nat} (hk : L.length ≤ k) (hl : L.length = M.length) (h : sameG q (L.take k) (M.take k) = true) : sameG q L M = true := by
  rwa [List.take_of_length_le hk, List.take_of_length_le (by omega)] at h
theorem sameG_refl (hq : ∀ a, q a a = true) : ∀ L : List α, sameG q L L = true
  | [] => rfl
  | a :: l => by unfold sameG; rw [hq, sameG_refl hq l]; rfl
end
def nodEq (p : Bool) (a b : Nod) : Bool := a.op == b.op && a.n == b.n && a.name == b.name && (!p || a.pl == b.pl)
def sameN (p : Bool) (L M : List Nod) : Bool := sameG (nodEq p) L M
def sameS (L M : List (List UInt8)) : Bool := sameG (fun a b => a == b) L M

set_option maxRecDepth 100000 in
set_option maxHeartbeats 2000000 in
theorem eqNod_any (a b : Nod) (w : World) : Calls Tryd.prog 45 #[.agg #[.int .i64 a.op, .int .i64 a.n, .string ⟨a.name.toArray⟩, .int .i64 a.pl], .agg #[.int .i64 b.op, .int .i64 b.n, .string ⟨b.name.toArray⟩, .int .i64 b.pl]] w (TellsB (nodEq false a b) w) := by
  go_enter Tryd.func45, Tryd.ntmps45
  go_wp2_with fail
  all_goals
    go_ret
    refine ⟨ret_bool ?_, ?_⟩
    · simp_all [nodEq]
    · exact ((Below.refl _ _).alloc (Nat.le_refl _) _).alloc (by simp) _

set_option maxRecDepth 100000 in
set_option maxHeartbeats 4000000 in
theorem equalFunc_any (v1 v2 : Value) (L M : List Nod) (w : World) (h1 : ReadN w v1 L) (h2 : ReadN w v2 M) (hl : L.length ≤ 10000) :
    Calls Tryd.prog 44 #[v1, v2, .func (.func 45) #[] #[]] w (TellsB (sameN false L M) w) := by
  have HR1 := Lib.hid h1
  have HR2 := Lib.hid h2
  obtain ⟨A, c, rfl, hc, hm1, hr1⟩ := h1
  obtain ⟨A', c', rfl, hc', hm2, hr2⟩ := h2
  clear hr1 hr2
  by_cases hL : L.length = M.length
  · rw [← hL] at HR2 hc' ⊢
    have HL := Lib.hid hL
    have HM := Lib.hid (show ∀ k, k < L.length → k < M.length by rw [hL]; exact fun _ h => h)
    clear hL
    go_enter Tryd.func44, Tryd.ntmps44
    go_wp2_with fail
    go_loopw [17] (fun i wr => ∃ k : Nat, k ≤ L.length ∧ i = .int .i64 k ∧ Below w.heap.size w wr ∧ sameG (nodEq false) (L.take k) (M.take k) = true) (fun i _ => L.length - (intOf i).toNat)
    case atStart => exact ⟨0, Nat.zero_le _, rfl, Below.refl _ _, rfl⟩
    case round =>
      obtain ⟨k, hk, rfl, hbel, hs⟩ := hrel
      have HS := Lib.hid hs
      have HB := Lib.hid hbel
      have hsz := hbel.size
      clear hs
      by_cases hlt : k < L.length
      · have hkm := HM.out k hlt
        have ha : L[k]? = some L[k] := List.getElem?_eq_getElem hlt
        have hb : M[k]? = some (M[k]'hkm) := List.getElem?_eq_getElem hkm
        generalize L[k] = a at *
        generalize M[k]'hkm = b at *
        obtain ⟨A2, c2, hv, _, _, hr⟩ := HR1.out.on hbel
        obtain ⟨rfl, _, rfl⟩ : A = A2 ∧ True ∧ c = c2 := by simpa using hv
        obtain ⟨A2', c2', hv', _, _, hr'⟩ := HR2.out.on hbel
        obtain ⟨rfl, rfl⟩ : A' = A2' ∧ c' = c2' := by simp only [Value.slice.injEq] at hv'; exact ⟨hv'.1, hv'.2.2⟩
        obtain ⟨g, o, rfl, hg, x0, x1, x2, x3⟩ := hr k a ha
        obtain ⟨g', o', rfl, hg', y0, y1, y2, y3⟩ := hr' k b hb
        have HN := Lib.hid (fun h => sameG_no (q := nodEq false) ha hb h)
        have HY := Lib.hid (sameG_succ (q := nodEq false) ha hb)
        clear ha hb hr hr' hv hv' hbel
        cases e1 : nodEq false a b with
        | false =>
          have HE := Lib.hid e1
          clear e1
          go_wp2_with fail
          refine (eqNod_any a b _).mono ?_
          rw [HE.out]
          rintro e w1 ⟨rfl, hb⟩
          have HB2 := Lib.hid (((HB.out.alloc hsz _).alloc (by simp; omega) _).trans (hb.mono (by simp; omega)))
          clear hb
          go_wp2_with fail
          go_ret
          exact ⟨ret_bool (HN.out HE.out).symm, HB2.out⟩
        | true =>
          have HE := Lib.hid e1
          clear e1
          go_wp2_with fail
          refine (eqNod_any a b _).mono ?_
          rw [HE.out]
          rintro e w1 ⟨rfl, hb⟩
          have HB2 := Lib.hid (((HB.out.alloc hsz _).alloc (by simp; omega) _).trans (hb.mono (by simp; omega)))
          clear hb
          go_wp2_with fail
          go_roundw
          case rel => exact ⟨k + 1, by omega, by go_num, HB2.out, by rw [HY.out, HS.out, HE.out]; rfl⟩
          case measure => simp [intOf]; omega
      · have HQ := Lib.hid (sameG_all (by omega) HL.out HS.out)
        clear hbel
        go_wp2_with fail
        go_ret
        exact ⟨ret_bool HQ.out.symm, HB.out⟩
  · have HQ := Lib.hid (sameG_len (q := nodEq false) hL)
    have hd : ((L.length : Int) != (M.length : Int)) = true := by simp; omega
    clear hL
    go_enter Tryd.func44, Tryd.ntmps44
    go_wp2_with fail
    go_ret
    exact ⟨ret_bool HQ.out.symm, Below.refl _ _⟩
theorem same_any (v1 v2 : Value) (L M : List Nod) (w : World) (h1 : ReadN w v1 L) (h2 : ReadN w v2 M) (hl : L.length ≤ 10000) : Calls Tryd.prog 28 #[v1, v2] w (TellsB (sameN false L M) w) := by
  have HR1 := Lib.hid h1
  have HR2 := Lib.hid h2
  clear h1 h2
  go_enter Tryd.func28, Tryd.ntmps28
  go_wp2_with fail
  refine (equalFunc_any v1 v2 L M _ HR1.out HR2.out hl).mono ?_
  rintro e w1 ⟨rfl, hb⟩
  go_wp2_with fail
  go_ret
  exact ⟨rfl, hb⟩

set_option maxRecDepth 100000 in
set_option maxHeartbeats 4000000 in
theorem rsame_any (p : Bool) (v1 v2 : Value) (L M : List Nod) (w : World) (h1 : ReadN w v1 L) (h2 : ReadN w v2 M) (hl : L.length ≤ 10000) :
    Calls Tryd.prog 14 #[v1, v2, .bool p] w (TellsB (sameN p L M) w) := by
  obtain ⟨A, c, rfl, hc, _, hr1⟩ := h1
  obtain ⟨A', c', rfl, hc', _, hr2⟩ := h2
  have HR1 := Lib.hid hr1
  have HR2 := Lib.hid hr2
  clear hr1 hr2
  by_cases hL : L.length = M.length
  · rw [← hL]
    have HL := Lib.hid hL
    have hkM : ∀ k, k < L.length → k < M.length := by rw [hL]; exact fun _ h => h
    have HM := Lib.hid hkM
    clear hL hkM
    go_enter Tryd.func14, Tryd.ntmps14
    go_wp2_with fail
    go_loopw [7] (fun i wr => ∃ k n : Nat, k ≤ L.length ∧ i = .int .i64 k ∧ wr = w.drewN n ∧ sameG (nodEq p) (L.take k) (M.take k) = true) (fun i _ => L.length - (intOf i).toNat)
    case atStart => exact ⟨0, 0, Nat.zero_le _, rfl, rfl, rfl⟩
    case round =>
      obtain ⟨k, n, hk, rfl, rfl, hs⟩ := hrel
      have HS := Lib.hid hs
      clear hs
      by_cases hlt : k < L.length
      · have hkm := HM.out k hlt
        have ha : L[k]? = some L[k] := List.getElem?_eq_getElem hlt
        have hb : M[k]? = some (M[k]'hkm) := List.getElem?_eq_getElem hkm
        generalize L[k] = a at *
        generalize M[k]'hkm = b at *
        obtain ⟨g, o, rfl, hg, x0, x1, x2, x3⟩ := HR1.out k a ha
        obtain ⟨g', o', rfl, hg', y0, y1, y2, y3⟩ := HR2.out k b hb
        have HN := Lib.hid (fun h => sameG_no (q := nodEq p) ha hb h)
        have HY := Lib.hid (sameG_succ (q := nodEq p) ha hb)
        clear ha hb
        cases e1 : (a.op != b.op) with
        | true =>
          have HQ : Hid (nodEq p a b = false) := Lib.hid (by unfold nodEq; simp at e1; simp [e1])
          go_wp2_with fail
          go_quiet (fail)
          go_wp2_with fail
          go_ret
          exact ⟨ret_bool (HN.out HQ.out).symm, below_drews _ _ _⟩
        | false =>
          cases e2 : (a.n != b.n) with
          | true =>
            have HQ : Hid (nodEq p a b = false) := Lib.hid (by unfold nodEq; simp at e2; simp [e2])
            go_wp2_with fail
            go_quiet (fail)
            go_wp2_with fail
            go_ret
            exact ⟨ret_bool (HN.out HQ.out).symm, below_drews _ _ _⟩
          | false =>
            cases e3 : (a.name == b.name) with
            | false =>
              have HQ : Hid (nodEq p a b = false) := Lib.hid (by unfold nodEq; simp at e3; simp [e3])
              go_wp2_with fail
              go_quiet (fail)
              go_wp2_with fail
              go_ret
              exact ⟨ret_bool (HN.out HQ.out).symm, below_drews _ _ _⟩
            | true =>
              cases p with
              | false =>
                have HQ : Hid (nodEq false a b = true) := Lib.hid (by unfold nodEq; simp at e1 e2 e3; simp [e1, e2, e3])
                go_wp2_with fail
                go_quiet (fail)
                go_wp2_with fail
                go_roundw
                case rel => exact ⟨k + 1, _, by omega, by go_num, rfl, by rw [HY.out, HS.out, HQ.out]; rfl⟩
                case measure => simp [intOf]; omega
              | true =>
                cases e4 : (a.pl != b.pl) with
                | true =>
                  have HQ : Hid (nodEq true a b = false) := Lib.hid (by unfold nodEq; simp at e4; simp [e4])
                  go_wp2_with fail
                  go_quiet (fail)
                  go_wp2_with fail
                  go_ret
                  exact ⟨ret_bool (HN.out HQ.out).symm, below_drews _ _ _⟩
                | false =>
                  have HQ : Hid (nodEq true a b = true) := Lib.hid (by unfold nodEq; simp at e1 e2 e3 e4; simp [e1, e2, e3, e4])
                  go_wp2_with fail
                  go_quiet (fail)
                  go_wp2_with fail
                  go_roundw
                  case rel => exact ⟨k + 1, _, by omega, by go_num, rfl, by rw [HY.out, HS.out, HQ.out]; rfl⟩
                  case measure => simp [intOf]; omega
      · have HQ := Lib.hid (sameG_all (by omega) HL.out HS.out)
        go_wp2_with fail
        go_ret
        exact ⟨ret_bool HQ.out.symm, below_drew1 _ _⟩
  · have HQ := Lib.hid (sameG_len (q := nodEq p) hL)
    have hd : ((L.length : Int) != (M.length : Int)) = true := by simp; omega
    clear hL
    go_enter Tryd.func14, Tryd.ntmps14
    go_wp2_with fail
    go_ret
    exact ⟨ret_bool HQ.out.symm, Below.refl _ _⟩

set_option maxRecDepth 100000 in
set_option maxHeartbeats 4000000 in
theorem texts_any (v1 v2 : Value) (L M : List (List UInt8)) (w : World) (h1 : ReadS w v1 L) (h2 : ReadS w v2 M) (hl : L.length ≤ 10000) :
    Calls Tryd.prog 23 #[v1, v2] w (TellsB (sameS L M) w) := by
  obtain ⟨A, c, rfl, hc, hr1⟩ := h1
  obtain ⟨A', c', rfl, hc', hr2⟩ := h2
  have HR1 := Lib.hid hr1
  have HR2 := Lib.hid hr2
  clear hr1 hr2
  by_cases hL : L.length = M.length
  · rw [← hL]
    have HL := Lib.hid hL
    have hkM : ∀ k, k < L.length → k < M.length := by rw [hL]; exact fun _ h => h
    have HM := Lib.hid hkM
    clear hL hkM
    go_enter Tryd.func23, Tryd.ntmps23
    go_wp2_with fail
    go_loopw [5] (fun i wr => ∃ k n : Nat, k ≤ L.length ∧ i = .int .i64 k ∧ wr = w.drewN n ∧ sameS (L.take k) (M.take k) = true) (fun i _ => L.length - (intOf i).toNat)
    case atStart => exact ⟨0, 0, Nat.zero_le _, rfl, rfl, rfl⟩
    case round =>
      obtain ⟨k, n, hk, rfl, rfl, hs⟩ := hrel
      have HS := Lib.hid hs
      clear hs
      by_cases hlt : k < L.length
      · have hkm := HM.out k hlt
        have ha : L[k]? = some L[k] := List.getElem?_eq_getElem hlt
        have hb : M[k]? = some (M[k]'hkm) := List.getElem?_eq_getElem hkm
        generalize L[k] = a at *
        generalize M[k]'hkm = b at *
        obtain ⟨g, rfl, hg, x0⟩ := HR1.out k a ha
        obtain ⟨g', rfl, hg', y0⟩ := HR2.out k b hb
        have HN : Hid ((a == b) = false → sameS L M = false) := Lib.hid (fun h => sameG_no (q := fun a b => a == b) ha hb h)
        have HY : Hid (sameS (L.take (k + 1)) (M.take (k + 1)) = (sameS (L.take k) (M.take k) && (a == b))) := Lib.hid (sameG_succ (q := fun a b => a == b) ha hb)
        clear ha hb
        cases e1 : (a == b) with
        | false =>
          have HE := Lib.hid e1
          go_wp2_with fail
          go_quiet (fail)
          go_wp2_with fail
          go_ret
          exact ⟨ret_bool (HN.out HE.out).symm, below_drews _ _ _⟩
        | true =>
          have HE := Lib.hid e1
          go_wp2_with fail
          go_quiet (fail)
          go_wp2_with fail
          go_roundw
          case rel => exact ⟨k + 1, _, by omega, by go_num, rfl, by rw [HY.out, HS.out, HE.out]; rfl⟩
          case measure => simp [intOf]; omega
      · have HQ : Hid (sameS L M = true) := Lib.hid (sameG_all (by omega) HL.out HS.out)
        go_wp2_with fail
        go_ret
        exact ⟨ret_bool HQ.out.symm, below_drew1 _ _⟩
  · have HQ : Hid (sameS L M = false) := Lib.hid (sameG_len (q := fun a b => a == b) hL)
    have hd : ((L.length : Int) != (M.length : Int)) = true := by simp; omega
    clear hL
    go_enter Tryd.func23, Tryd.ntmps23
    go_wp2_with fail
    go_ret
    exact ⟨ret_bool HQ.out.symm, Below.refl _ _⟩
end Go.Proofs.YtcmbcbdijmknnaaDoor
