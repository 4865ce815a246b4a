/-
  DERIVED. Layer 3: slices of texts; contracts of slices.Contains, expr.Names, and of the comparison that the laws make of texts.
-/
import Derived.Test.YtcmbcbdijmknnaaDoorText
namespace Go.Proofs.YtcmbcbdijmknnaaDoor
open Go.RowKit

def strVals (l : List (List UInt8)) : List Value := l.map fun s => .string ⟨s.toArray⟩
def OwnS (w : World) (B : Nat) (v : Value) (l : List (List UInt8)) : Prop := w.ownsRow B 9 1 v l.length (strVals l)
def ReadS (w : World) (v : Value) (l : List (List UInt8)) : Prop :=
  ∃ A c, v = .slice A l.length c ∧ l.length ≤ c ∧ (∀ i s, l[i]? = some s → ∃ g, A = some ⟨g, 0, none⟩ ∧ g < w.heap.size ∧ w.cell? ⟨g, i, none⟩ = some (.string ⟨s.toArray⟩))
theorem OwnS.read {w : World} {B : Nat} {v : Value} {l : List (List UInt8)} (h : OwnS w B v l) : ReadS w v l := by
  rcases h.2 with ⟨rfl, h0⟩ | ⟨g, cap, cur, rfl, hB, hh, hn, hm, hs, hc⟩
  · have : l = [] := List.length_eq_zero_iff.1 h0
    subst this
    exact ⟨none, 0, rfl, Nat.le_refl _, fun i t h => by simp at h⟩
  · refine ⟨_, cap, rfl, hn, fun i s hi => ⟨g, rfl, (Array.getElem?_eq_some_iff.1 hh).1, ?_⟩⟩
    have h1 : (strVals l)[i]? = some (.string ⟨s.toArray⟩) := by unfold strVals; rw [List.getElem?_map, hi]; rfl
    have hlt := (List.getElem?_eq_some_iff.1 hi).1
    rw [cell_of_row w g _ cur 9 (0, 0) hh]
    rw [← hc, List.getElem?_take, if_pos (by omega)] at h1
    simpa using h1
theorem ReadS.on {w w' : World} {v : Value} {l : List (List UInt8)} (h : ReadS w v l) (hb : Below w.heap.size w w') : ReadS w' v l := by
  obtain ⟨A, c, hv, hc, hr⟩ := h
  refine ⟨A, c, hv, hc, fun i t hi => ?_⟩
  obtain ⟨g, hA, hg, h0⟩ := hr i t hi
  exact ⟨g, hA, Nat.lt_of_lt_of_le hg hb.size, (hb.cell (p := ⟨g, i, none⟩) hg).trans h0⟩
theorem OwnS.on {w w' : World} {B : Nat} {v : Value} {l : List (List UInt8)} (h : OwnS w B v l) (hb : Below w.heap.size w w') : OwnS w' B v l := by
  obtain ⟨h1, h2⟩ := h
  refine ⟨h1, ?_⟩
  rcases h2 with h2 | ⟨g, cap, cur, hv, hg, hh, r⟩
  · exact .inl h2
  · exact .inr ⟨g, cap, cur, hv, hg, (hb.block g (Array.getElem?_eq_some_iff.1 hh).1).trans hh, r⟩
theorem ownS_block {w : World} {B : Nat} {v : Value} {l : List (List UInt8)} (h : OwnS w B v l) : ∀ g, v.ownBlock = some g → B ≤ g := by
  intro g hg
  rcases h.2 with ⟨rfl, _⟩ | ⟨g', cap, cur, rfl, hB, hh, _⟩
  · simp [Value.ownBlock] at hg
  · simp [Value.ownBlock] at hg
    subst hg
    exact hB
theorem strVals_snoc (l : List (List UInt8)) (s : List UInt8) : strVals (l ++ [s]) = strVals l ++ [.string ⟨s.toArray⟩] := by simp [strVals]

/-- Is a text among these? -/
def hasB (l : List (List UInt8)) (s : List UInt8) : Bool := l.contains s
theorem has_succ {s t : List UInt8} {l : List (List UInt8)} {k : Nat} (ht : l[k]? = some t) (h : hasB (l.take k) s = false) (hp : (s == t) = false) : hasB (l.take (k + 1)) s = false := by
  unfold hasB at *
  rw [List.take_add_one, ht]
  simp only [List.contains_eq_mem, decide_eq_false_iff_not, List.mem_append] at *
  simp at hp ⊢
  exact ⟨h, hp⟩
theorem has_hit {s t : List UInt8} {l : List (List UInt8)} {k : Nat} (ht : l[k]? = some t) (hp : (s == t) = true) : hasB l s = true := by
  unfold hasB
  simp at hp; subst hp
  simp only [List.contains_eq_mem, decide_eq_true_eq]
  exact List.mem_of_getElem? ht
def TellsX (b : Bool) (w : World) (e : Ending) (w' : World) : Prop := ∃ n : Int, e = .returned (.int .i64 n) ∧ decide (0 ≤ n) = b ∧ w = w'

set_option maxRecDepth 100000 in
set_option maxHeartbeats 2000000 in
theorem index_any (v : Value) (l : List (List UInt8)) (s : List UInt8) (w : World) (h : ReadS w v l) (hl : l.length ≤ 10000) : Calls Tryd.prog 64 #[v, .string ⟨s.toArray⟩] w (TellsX (hasB l s) w) := by
  obtain ⟨A, c, rfl, hc, hr⟩ := h
  have HR := Lib.hid hr
  clear hr
  go_enter Tryd.func64, Tryd.ntmps64
  go_wp2_with fail
  go_loop [8] (fun i => ∃ k : Nat, k ≤ l.length ∧ i = .int .i64 k ∧ hasB (l.take k) s = false) (fun i => l.length - (intOf i).toNat)
  case atStart => exact ⟨0, Nat.zero_le _, rfl, rfl⟩
  case round =>
    obtain ⟨k, hk, rfl, ha⟩ := hrel
    have HA := Lib.hid ha
    clear ha
    by_cases hlt : k < l.length
    · have hat : l[k]? = some l[k] := List.getElem?_eq_getElem hlt
      generalize l[k] = t at *
      obtain ⟨g, rfl, hg, x0⟩ := HR.out k t hat
      cases hp : (s == t) with
      | true =>
        have HN := Lib.hid (has_hit hat hp)
        clear hat
        go_wp2_with fail
        go_ret
        exact ⟨k, rfl, by rw [HN.out]; simp, rfl⟩
      | false =>
        have HN := Lib.hid (has_succ hat HA.out hp)
        clear hat
        go_wp2_with fail
        go_round
        case rel => exact ⟨k + 1, by omega, by go_num, HN.out⟩
        case measure => simp [intOf]; omega
    · have HN : Hid (hasB l s = false) := Lib.hid (by have := HA.out; rwa [List.take_of_length_le (by omega)] at this)
      go_wp2_with fail
      go_ret
      exact ⟨-1, rfl, by rw [HN.out]; rfl, rfl⟩
theorem contains_any (v : Value) (l : List (List UInt8)) (s : List UInt8) (w : World) (h : ReadS w v l) (hl : l.length ≤ 10000) : Calls Tryd.prog 41 #[v, .string ⟨s.toArray⟩] w (Tells (hasB l s) w) := by
  have HR := Lib.hid h
  clear h
  go_enter Tryd.func41, Tryd.ntmps41
  go_wp2_with fail
  refine (index_any v l s _ HR.out hl).mono ?_
  rintro e w' ⟨n, rfl, hn, rfl⟩
  have HN := Lib.hid hn
  clear hn
  go_wp2_with fail
  go_ret
  exact ⟨ret_bool HN.out, rfl⟩

/-- The names among nodes. -/
def addName (acc : List (List UInt8)) (a : Nod) : List (List UInt8) := if a.op = 2 ∧ hasB acc a.name = false then acc ++ [a.name] else acc
def namesOf (L : List Nod) : List (List UInt8) := L.foldl addName []
def namesL (L : List Nod) : List (List UInt8) := if rightL L = true then namesOf L else []
theorem names_succ {L : List Nod} {k : Nat} {a : Nod} (h : L[k]? = some a) : namesOf (L.take (k + 1)) = addName (namesOf (L.take k)) a := by
  unfold namesOf; rw [List.take_add_one, h]; simp
theorem names_len (L : List Nod) : (namesOf L).length ≤ L.length := by
  suffices h : ∀ (L : List Nod) (acc : List (List UInt8)), (L.foldl addName acc).length ≤ acc.length + L.length by
    have := h L []; simpa [namesOf] using this
  intro L
  induction L with
  | nil => intro acc; simp
  | cons a L ih =>
    intro acc
    have h1 := ih (addName acc a)
    have h2 : (addName acc a).length ≤ acc.length + 1 := by unfold addName; split <;> simp
    simp only [List.foldl_cons, List.length_cons]; omega
theorem info9 : (Tryd.prog.info? 9).map (fun i => (i.zero, i.size, i.bytes)) = some (some (.string ⟨#[]⟩), 1, 16) := by kernel_rfl
def GivesS1 (l : List (List UInt8)) (w : World) (e : Ending) (w' : World) : Prop := ∃ v, e = .returned v ∧ OwnS w' w.heap.size v l ∧ Below w.heap.size w w'

set_option maxRecDepth 100000 in
set_option maxHeartbeats 4000000 in
theorem names_any (v : Value) (L : List Nod) (w : World) (h : ReadN w v L) (hl : L.length ≤ 10000) (hs : SmallN L) : Calls Tryd.prog 24 #[v] w (GivesS1 (namesL L) w) := by
  obtain ⟨i0, hi, hz0, hz1, hz2⟩ := info_parts info9
  have HZ := Lib.hid (show Tryd.prog.info? 9 = some i0 ∧ i0.zero = some (.string ⟨#[]⟩) ∧ i0.size = 1 ∧ i0.bytes = 16 from ⟨hi, hz0, hz1, hz2⟩)
  clear hi hz0 hz1 hz2
  have HR := Lib.hid h
  have HS := Lib.hid hs
  clear h hs
  cases hr : rightL L with
  | false =>
    have HQ : Hid (namesL L = []) := Lib.hid (by unfold namesL; rw [hr]; rfl)
    have HH := Lib.hid hr
    clear hr
    go_enter Tryd.func24, Tryd.ntmps24
    go_wp2_with fail
    refine (right_any v L _ HR.out hl HS.out).mono ?_
    rw [HH.out]
    rintro e w1 ⟨rfl, hb⟩
    go_wp2_with fail
    go_ret
    exact ⟨_, rfl, by rw [HQ.out]; exact World.ownsRow_nil _ _ _ _, hb⟩
  | true =>
    have HQ : Hid (namesL L = namesOf L) := Lib.hid (by unfold namesL; rw [hr]; rfl)
    have HH := Lib.hid hr
    clear hr
    go_enter Tryd.func24, Tryd.ntmps24
    go_wp2_with fail
    refine (right_any v L _ HR.out hl HS.out).mono ?_
    rw [HH.out]
    rintro e w1 ⟨rfl, hb⟩
    have HB1 := Lib.hid hb
    have HR1 := Lib.hid (HR.out.on hb)
    clear hb
    obtain ⟨A, c, hv, hc, hm, hr1⟩ := HR.out
    subst hv
    clear hr1
    go_wp2_with fail
    go_loopw [3, 11] (fun u i wr => ∃ k : Nat, k ≤ L.length ∧ i = .int .i64 k ∧ OwnS wr w.heap.size u (namesOf (L.take k)) ∧ Below w.heap.size w wr) (fun _ i _ => L.length - (intOf i).toNat)
    case atStart => exact ⟨0, Nat.zero_le _, rfl, World.ownsRow_nil _ _ _ _, HB1.out⟩
    case round =>
      obtain ⟨k, hk, rfl, hown, hbel⟩ := hrel
      have HO := Lib.hid hown
      have HB := Lib.hid hbel
      have hsz := hbel.size
      have hnl := names_len (L.take k)
      rw [List.length_take] at hnl
      clear hown
      by_cases hlt : k < L.length
      · have hat : L[k]? = some L[k] := List.getElem?_eq_getElem hlt
        have HN := Lib.hid (names_succ hat)
        generalize L[k] = a at *
        obtain ⟨A', c', hv', _, _, hr'⟩ := HR.out.on hbel
        obtain ⟨rfl, _, rfl⟩ : A = A' ∧ True ∧ c = c' := by simpa using hv'
        obtain ⟨g, o, rfl, hg, x0, x1, x2, x3⟩ := hr' k a hat
        clear hr' hv' hbel hat
        generalize namesOf (L.take k) = acc at *
        cases e1 : (a.op == 2) with
        | false =>
          have HA : Hid (addName acc a = acc) := Lib.hid (by unfold addName; simp at e1; simp [e1])
          go_wp2_with fail
          go_roundw
          case rel => exact ⟨k + 1, by omega, by go_num, by rw [HN.out, HA.out]; exact HO.out.on ((Below.refl _ _).alloc (Nat.le_refl _) _), HB.out.alloc hsz _⟩
          case measure => simp [intOf]; omega
        | true =>
          cases e2 : hasB acc a.name with
          | true =>
            have HA : Hid (addName acc a = acc) := Lib.hid (by unfold addName; simp only [e2]; simp)
            have HE := Lib.hid e2
            clear e2
            go_wp2_with fail
            refine (contains_any _ acc a.name _ (HO.out.on ((Below.refl _ _).alloc (Nat.le_refl _) _)).read (by omega)).mono ?_
            rw [HE.out]
            rintro e w' ⟨rfl, rfl⟩
            go_wp2_with fail
            go_roundw
            case rel => exact ⟨k + 1, by omega, by go_num, by rw [HN.out, HA.out]; exact HO.out.on ((Below.refl _ _).alloc (Nat.le_refl _) _), HB.out.alloc hsz _⟩
            case measure => simp [intOf]; omega
          | false =>
            have HA : Hid (addName acc a = acc ++ [a.name]) := Lib.hid (by unfold addName; simp at e1; rw [if_pos ⟨e1, e2⟩])
            have HE := Lib.hid e2
            clear e2
            go_wp2_with fail
            refine (contains_any _ acc a.name _ (HO.out.on ((Below.refl _ _).alloc (Nat.le_refl _) _)).read (by omega)).mono ?_
            rw [HE.out]
            rintro e w' ⟨rfl, rfl⟩
            go_wp2_with (at_builtin; refine wpList_append_own _ rfl (.tmp 25) (.tmp 28) 41 rfl w.heap.size 9 i0 (.string ⟨#[]⟩) 1 16 Tryd.underlying41 HZ.out.1 HZ.out.2.1 HZ.out.2.2.1 HZ.out.2.2.2 rfl (by decide) _ acc.length (strVals acc) rfl ?cO ⟨wr.heap.size + 1, 0, none⟩ 1 1 [.string ⟨a.name.toArray⟩] rfl rfl ?c1 ?c2 ?c3 ?c4 ?c5 ?_)
            case cO => exact (HO.out.alloc _).alloc _
            case c1 =>
              intro j u hj
              match j, hj with
              | 0, hj => simp at hj; subst hj; simp [Addr.add]
            case c2 => intro u hu; simp at hu; subst hu; rfl
            case c3 => unfold maxLen; omega
            case c4 => omega
            case c5 => simp; omega
            intro v' w3 hown' hgrow _
            have HO' : Hid (OwnS w3 w.heap.size v' (acc ++ [a.name])) := Lib.hid (by unfold OwnS; rw [strVals_snoc, List.length_append]; exact hown')
            have HB' : Hid (Below w.heap.size w w3) := Lib.hid (((HB.out.alloc hsz _).alloc (by simp; omega) _).grown hgrow (by simp; omega) (ownS_block HO.out))
            clear hown' hgrow x0 x1 x2 x3
            go_wp2_with fail
            go_roundw
            case rel => exact ⟨k + 1, by omega, by go_num, by rw [HN.out, HA.out]; exact HO'.out, HB'.out⟩
            case measure => simp [intOf]; omega
      · have HO2 : Hid (OwnS wr w.heap.size u3 (namesOf L)) := Lib.hid (by have := HO.out; rwa [List.take_of_length_le (by omega)] at this)
        clear hbel
        go_wp2_with fail
        go_ret
        exact ⟨_, rfl, by rw [HQ.out]; exact HO2.out, HB.out⟩
end Go.Proofs.YtcmbcbdijmknnaaDoor
