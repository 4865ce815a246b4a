/-
  DERIVED. Layer 3: what the document's reader says of a reading, plain: nothing of the program's walks in it.
-/
import Derived.Test.YtcmbcbdijmknnaaDoorRefOps
import Derived.Test.YtcmbcbdijmknnaaDoorSingle
namespace Go.Proofs.YtcmbcbdijmknnaaDoor
open Go.RowKit

def toOf : Res → Nat
  | .ok _ to => to
  | .bad _ _ => 0
def plOf (L : List Tok) : Res → Int
  | .ok _ _ => 0
  | .bad _ j => placeV L j
def nodesOf : Res → List Nod
  | .ok x _ => x.flat
  | .bad _ _ => []
/-- What the document's reader comes back with. -/
def RGives (L : List Tok) (r : Res) (w : World) (e : Ending) (w' : World) : Prop :=
  ∃ (A : Option Addr) (n c : Nat), e = .returned (.agg #[.slice A n c, .int .i64 (toOf r : Nat), .int .i64 (errOf r), .int .i64 (plOf L r)]) ∧ OwnN w' w.heap.size (.slice A n c) (nodesOf r) ∧ Below w.heap.size w w'
def PrimeSays (L : List Tok) (f : Nat) : Prop := ∀ (i d : Nat) (r : Res) (v : Value) (w : World), d ≤ 12 → singleF L f i d = some r → ReadT w v L → Calls Tryd.prog 50 #[v, .int .i64 i, .int .i64 d] w (RGives L r w)
def FloorSays (L : List Tok) (f : Nat) : Prop := ∀ (n i d : Nat) (r : Res) (v : Value) (w : World), n ≤ 5 → d ≤ 12 → chainF L f (n + 1) i d = some r → ReadT w v L → Calls Tryd.prog 31 #[v, .int .i64 i, .int .i64 d, .int .i64 n] w (RGives L r w)
theorem rgives_bad {L : List Tok} {er : Int} {j : Nat} {pl : Int} {w w' : World} {e : Ending} (hp : pl = placeV L j) (h : SaysBad er pl w e w') : RGives L (.bad er j) w e w' := by
  obtain ⟨he, hb⟩ := h
  subst hp
  exact ⟨none, 0, 0, he, ownN_nil _ _, hb⟩

theorem sign6_neg {L : List Tok} {i : Nat} (h : isB L i [45] = true) : signAt L 6 i = 3 := by
  refine signAt_hit (k := 3) (by omega) (fun op ho => ?_) (by show (bindT 3 == ((6 : Nat) : Int) && isB L i (signT 3)) = true; rw [show signT 3 = [45] from rfl, h]; decide)
  match op, ho with
  | 0, _ => rfl
  | 1, _ => rfl
  | 2, _ => rfl
theorem sign6_not {L : List Tok} {i : Nat} (h : isB L i [33] = true) : signAt L 6 i = 4 := by
  have h3 : isB L i [45] = false := by
    cases h2 : isB L i [45] with
    | false => rfl
    | true => exact absurd (isB_one h h2) (by decide)
  refine signAt_hit (k := 4) (by omega) (fun op ho => ?_) (by show (bindT 4 == ((6 : Nat) : Int) && isB L i (signT 4)) = true; rw [show signT 4 = [33] from rfl, h]; decide)
  match op, ho with
  | 0, _ => rfl
  | 1, _ => rfl
  | 2, _ => rfl
  | 3, _ => show (bindT 3 == ((6 : Nat) : Int) && isB L i [45]) = false; rw [h3, Bool.and_false]
theorem sign6_none {L : List Tok} {i : Nat} (h : isB L i [45] = false) (h2 : isB L i [33] = false) : signAt L 6 i = 0 := by
  by_cases h0 : signAt L 6 i = 0
  · exact h0
  · obtain ⟨h3, h4, h5⟩ := signAt_spec h0
    exfalso
    have key : ∀ op : Fin 16, bindT op = 6 → op.1 = 3 ∨ op.1 = 4 := by decide
    rcases key ⟨_, h3⟩ h4 with e | e <;> (simp only at e; rw [e] at h5)
    · rw [show signT 3 = [45] from rfl, h] at h5; cases h5
    · rw [show signT 4 = [33] from rfl, h2] at h5; cases h5
theorem isB_text {L : List Tok} {i : Nat} {s : List UInt8} {t : Tok} (h : isB L i s = true) (ht : L[i]? = some t) : t.text = s := by
  unfold isB at h
  rw [Int.toNat_natCast, ht] at h
  simp at h
  exact h.2
/-- What reading comes to, by what stands at the place. -/
theorem single_out {L : List Tok} {f i d : Nat} {r : Res} (hr : singleF L (f + 1) i d = some r) (hi : L.length ≤ i) : r = .bad 6 i := by
  have h1 : isB L i [40] = false := by
    cases h : isB L i [40] with
    | false => rfl
    | true => have := isB_lt h; omega
  have h2 : signAt L 6 i = 0 := by
    by_cases h0 : signAt L 6 i = 0
    · exact h0
    · have := signAt_lt h0; omega
  rw [singleF, h1, if_neg (by simp), if_pos h2] at hr
  unfold leafR at hr
  rw [List.getElem?_eq_none hi] at hr
  exact (Option.some.inj hr).symm
theorem single_sign {L : List Tok} {f i d : Nat} {r : Res} {s : List UInt8} (hr : singleF L (f + 1) i d = some r) (hs : isB L i s = true) (hs2 : s = [45] ∨ s = [33]) :
    (d = 12 → r = .bad 7 i) ∧ (d ≠ 12 → ∃ r1, singleF L f (i + 1) (d + 1) = some r1 ∧ r = unR (signN L 6 i) r1) := by
  have h1 : isB L i [40] = false := by
    cases h : isB L i [40] with
    | false => rfl
    | true => have := isB_one h hs; rcases hs2 with rfl | rfl <;> cases this
  have h2 : signAt L 6 i ≠ 0 := by
    rcases hs2 with rfl | rfl
    · rw [sign6_neg hs]; decide
    · rw [sign6_not hs]; decide
  rw [singleF, h1, if_neg (by simp), if_neg h2] at hr
  refine ⟨fun hd => ?_, fun hd => ?_⟩
  · rw [if_pos hd] at hr; exact (Option.some.inj hr).symm
  · rw [if_neg hd] at hr
    cases hch : singleF L f (i + 1) (d + 1) with
    | none => rw [hch] at hr; cases hr
    | some r1 =>
      rw [hch] at hr
      refine ⟨r1, rfl, ?_⟩
      cases r1 with
      | ok x to => exact (Option.some.inj hr).symm
      | bad e j => exact (Option.some.inj hr).symm
theorem single_open {L : List Tok} {f i d : Nat} {r : Res} (hr : singleF L (f + 1) i d = some r) (hs : isB L i [40] = true) :
    (d = 12 → r = .bad 7 i) ∧ (d ≠ 12 → ∃ r1, chainF L f 1 (i + 1) (d + 1) = some r1 ∧ r = parenR L r1) := by
  rw [singleF, hs, if_pos rfl] at hr
  refine ⟨fun hd => ?_, fun hd => ?_⟩
  · rw [if_pos hd] at hr; exact (Option.some.inj hr).symm
  · rw [if_neg hd] at hr
    cases hch : chainF L f 1 (i + 1) (d + 1) with
    | none => rw [hch] at hr; cases hr
    | some r1 =>
      rw [hch] at hr
      refine ⟨r1, rfl, ?_⟩
      cases r1 with
      | ok x to =>
        simp only at hr
        show r = if isB L to [41] = true then Res.ok x (to + 1) else wrongV L to
        split at hr
        · rw [if_pos (by assumption)]; exact (Option.some.inj hr).symm
        · rw [if_neg (by assumption)]; exact (Option.some.inj hr).symm
      | bad e j => exact (Option.some.inj hr).symm
theorem single_rest {L : List Tok} {f i d : Nat} {r : Res} {t : Tok} (hr : singleF L (f + 1) i d = some r) (h1 : isB L i [40] = false) (h2 : isB L i [45] = false) (h3 : isB L i [33] = false) (ht : L[i]? = some t) :
    r = if t.kind = 2 then .ok (.leaf ⟨1, t.n, [], t.pl⟩) (i + 1) else if t.kind = 1 ∧ nameB t.text = true then .ok (.leaf ⟨2, 0, t.text, t.pl⟩) (i + 1) else .bad 5 i := by
  rw [singleF, h1, if_neg (by simp), if_pos (sign6_none h2 h3)] at hr
  have := (Option.some.inj hr).symm
  unfold leafR at this
  rw [ht] at this
  exact this
end Go.Proofs.YtcmbcbdijmknnaaDoor
