/-
  DERIVED. Layer 3: which expressions are right, their parts; nothing of the program in it.
-/
import Derived.Test.YtcmbcbdijmknnaaDoorPlain
import Derived.Test.YtcmbcbdijmknnaaDoorTree
namespace Go.Proofs.YtcmbcbdijmknnaaDoor

def nodOK (a : Nod) : Bool := decide (0 ≤ a.pl) && decide (a.pl ≤ 4000) && (if a.op = 1 then decide (0 ≤ a.n) && decide (a.n ≤ 4294967296) && a.name.isEmpty else if a.op = 2 then decide (a.n = 0) && nameB a.name else decide (a.n = 0) && a.name.isEmpty)
/-- Is an expression right? -/
def rightL (L : List Nod) : Bool := match wholeT L with
  | some x => decide (L.length ≤ 40) && L.all nodOK && decide (x.deep ≤ 12)
  | none => false
theorem right_some {L : List Nod} (h : rightL L = true) : ∃ x, wholeT L = some x ∧ x.ok ∧ L = x.flat ∧ L.length ≤ 40 ∧ L.all nodOK = true ∧ x.deep ≤ 12 := by
  unfold rightL at h
  cases hw : wholeT L with
  | none => rw [hw] at h; cases h
  | some x =>
    rw [hw] at h
    simp only [Bool.and_eq_true, decide_eq_true_eq] at h
    obtain ⟨h1, h2⟩ := whole_some hw
    exact ⟨x, rfl, h1, h2, h.1.1, h.1.2, h.2⟩
theorem right_flat {x : Ex} (h : x.ok) : rightL x.flat = (decide (x.size ≤ 40) && x.flat.all nodOK && decide (x.deep ≤ 12)) := by
  unfold rightL; rw [whole_flat h, flat_len]
/-- The parts that stand behind the first node. -/
def Ex.kids : Ex → List Ex
  | .leaf _ => []
  | .un _ x => [x]
  | .bin _ x y => [x, y]
theorem flat_kids (x : Ex) : x.flat = x.top :: x.kids.flatMap Ex.flat := by cases x <;> simp [Ex.flat, Ex.top, Ex.kids]
def sizes (l : List Ex) : Nat := (l.map Ex.size).sum
def deeps (l : List Ex) : Nat := l.foldl (fun m y => max m (y.deep + 1)) 1
theorem size_kids (x : Ex) : x.size = 1 + sizes x.kids := by cases x <;> simp [Ex.size, sizes, Ex.kids] <;> omega
theorem deep_kids (x : Ex) : x.deep = deeps x.kids := by
  cases x with
  | leaf a => rfl
  | un a x => simp [Ex.deep, deeps, Ex.kids]
  | bin a x y => simp [Ex.deep, deeps, Ex.kids]
theorem ok_kids {x : Ex} (h : x.ok) : (∀ y ∈ x.kids, y.ok) ∧ takesN x.top.op = some x.kids.length := by
  cases x with
  | leaf a => exact ⟨fun y hy => by simp [Ex.kids] at hy, h⟩
  | un a x => exact ⟨fun y hy => by simp [Ex.kids] at hy; subst hy; exact h.2, h.1⟩
  | bin a x y => exact ⟨fun z hz => by simp [Ex.kids] at hz; rcases hz with rfl | rfl; exact h.2.1; exact h.2.2, h.1⟩
theorem deeps_snoc (l : List Ex) (y : Ex) : deeps (l ++ [y]) = max (deeps l) (y.deep + 1) := by simp [deeps]
theorem sizes_app (l m : List Ex) : sizes (l ++ m) = sizes l + sizes m := by simp [sizes]
theorem sizes_cons (y : Ex) (m : List Ex) : sizes (y :: m) = y.size + sizes m := by simp [sizes]
theorem flats_len (l : List Ex) : (l.flatMap Ex.flat).length = sizes l := by
  induction l with
  | nil => rfl
  | cons y l ih => rw [List.flatMap_cons, List.length_append, ih, flat_len, sizes_cons]
/-- The part that comes next among the nodes. -/
theorem kid_next {x y : Ex} {d r : List Ex} (h : x.kids = d ++ y :: r) : x.flat.drop (1 + sizes d) = y.flat ++ r.flatMap Ex.flat := by
  rw [flat_kids, h, Nat.add_comm, List.drop_succ_cons, List.flatMap_append, List.flatMap_cons, ← flats_len, List.drop_left]
theorem kid_end {x y : Ex} {d r : List Ex} (h : x.kids = d ++ y :: r) (ho : y.ok) : endV x.flat ((1 + sizes d : Nat) : Int) = ((1 + sizes d + y.size : Nat) : Int) := by
  rw [endV_nat, kid_next h, endC_flat y _ ho]
theorem kid_part {x y : Ex} {d r : List Ex} (h : x.kids = d ++ y :: r) : (x.flat.take (1 + sizes d + y.size)).drop (1 + sizes d) = y.flat := by
  rw [List.drop_take, kid_next h, show 1 + sizes d + y.size - (1 + sizes d) = y.flat.length from by rw [flat_len]; omega, List.take_left]
end Go.Proofs.YtcmbcbdijmknnaaDoor
