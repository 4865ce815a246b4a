/-
  DERIVED. Texts of the walk, packed: Alike, StTree.
-/
import Derived.Test.YtpeohfgadnfnpaaGreatDoorP08
/-
  DERIVED. Layer 3: contracts of expr.Same, of the one that the laws hold it against, and of the laws' comparison of texts.
-/
namespace Go.Proofs.YtpeohfgadnfnpaaGreatDoor
open Go.RowKit

/-- Lists that are alike, place by place. -/
def sameG {α : Type} (q : α → α → Bool) : List α → List α → Bool
  | [], [] => true
  | a :: l, b :: m => q a b && sameG q l m
  | _, _ => false
section
variable {α : Type} {q : α → α → Bool}
theorem sameG_len : ∀ {L M : List α}, L.length ≠ M.length → sameG q L M = false
  | [], [], h => absurd rfl h
  | [], b :: m, _ => rfl
  | a :: l, [], _ => rfl
  | a :: l, b :: m, h => by
    unfold sameG; rw [sameG_len (L := l) (M := m) (fun e => h (by simp [e]))]; simp
theorem sameG_succ : ∀ {L M : List α} {k : Nat} {a b : α}, L[k]? = some a → M[k]? = some b → sameG q (L.take (k + 1)) (M.take (k + 1)) = (sameG q (L.take k) (M.take k) && q a b)
  | [], M, k, a, b, h, _ => by simp at h
  | x :: l, [], k, a, b, _, h => by simp at h
  | x :: l, y :: m, 0, a, b, h, h2 => by
    simp at h h2; subst h; subst h2
    simp [sameG]
  | x :: l, y :: m, k + 1, a, b, h, h2 => by
    have ih := sameG_succ (L := l) (M := m) (k := k) (a := a) (b := b) (by simpa using h) (by simpa using h2)
    rw [List.take_succ_cons, List.take_succ_cons, List.take_succ_cons, List.take_succ_cons]
    unfold sameG
    rw [ih, Bool.and_assoc]
theorem sameG_no : ∀ {L M : List α} {k : Nat} {a b : α}, L[k]? = some a → M[k]? = some b → q a b = false → sameG q L M = false
  | [], M, k, a, b, h, _, _ => by simp at h
  | x :: l, [], k, a, b, _, h, _ => by simp at h
  | x :: l, y :: m, 0, a, b, h, h2, he => by
    simp at h h2; subst h; subst h2
    unfold sameG; rw [he]; rfl
  | x :: l, y :: m, k + 1, a, b, h, h2, he => by
    unfold sameG; rw [sameG_no (L := l) (M := m) (k := k) (by simpa using h) (by simpa using h2) he]; simp
theorem sameG_all {L M : List α} {k : Nat} (hk : L.length ≤ k) (hl : L.length = M.length) (h : sameG q (L.take k) (M.take k) = true) : sameG q L M = true := by
  rwa [List.take_of_length_le hk, List.take_of_length_le (by omega)] at h
theorem sameG_refl (hq : ∀ a, q a a = true) : ∀ L : List α, sameG q L L = true
  | [] => rfl
  | a :: l => by unfold sameG; rw [hq, sameG_refl hq l]; rfl
end
def nodEq (p : Bool) (a b : Nod) : Bool := a.op == b.op && a.n == b.n && a.name == b.name && (!p || a.pl == b.pl)
def sameN (p : Bool) (L M : List Nod) : Bool := sameG (nodEq p) L M
def sameS (L M : List (List UInt8)) : Bool := sameG (fun a b => a == b) L M

set_option maxRecDepth 100000 in
set_option maxHeartbeats 2000000 in
theorem eqNod_any (a b : Nod) (w : World) : Calls Tryz.prog 66 #[.agg #[.int .i64 a.op, .int .i64 a.n, .string ⟨a.name.toArray⟩, .int .i64 a.pl], .agg #[.int .i64 b.op, .int .i64 b.n, .string ⟨b.name.toArray⟩, .int .i64 b.pl]] w (TellsB (nodEq false a b) w) := by
  go_enter Tryz.func66, Tryz.ntmps66
  go_wp2_with fail
  all_goals
    go_ret
    refine ⟨ret_bool ?_, ?_⟩
    · simp_all [nodEq]
    · exact ((Below.refl _ _).alloc (Nat.le_refl _) _).alloc (by simp) _

set_option maxRecDepth 100000 in
set_option maxHeartbeats 4000000 in
theorem equalFunc_any (v1 v2 : Value) (L M : List Nod) (w : World) (h1 : ReadN w v1 L) (h2 : ReadN w v2 M) (hl : L.length ≤ 10000) :
    Calls Tryz.prog 65 #[v1, v2, .func (.func 66) #[] #[]] w (TellsB (sameN false L M) w) := by
  have HR1 := Lib.hid h1
  have HR2 := Lib.hid h2
  obtain ⟨A, c, rfl, hc, hm1, hr1⟩ := h1
  obtain ⟨A', c', rfl, hc', hm2, hr2⟩ := h2
  clear hr1 hr2
  by_cases hL : L.length = M.length
  · rw [← hL] at HR2 hc' ⊢
    have HL := Lib.hid hL
    have HM := Lib.hid (show ∀ k, k < L.length → k < M.length by rw [hL]; exact fun _ h => h)
    clear hL
    go_enter Tryz.func65, Tryz.ntmps65
    go_wp2_with fail
    go_loopw [17] (fun i wr => ∃ k : Nat, k ≤ L.length ∧ i = .int .i64 k ∧ Below w.heap.size w wr ∧ sameG (nodEq false) (L.take k) (M.take k) = true) (fun i _ => L.length - (intOf i).toNat)
    case atStart => exact ⟨0, Nat.zero_le _, rfl, Below.refl _ _, rfl⟩
    case round =>
      obtain ⟨k, hk, rfl, hbel, hs⟩ := hrel
      have HS := Lib.hid hs
      have HB := Lib.hid hbel
      have hsz := hbel.size
      clear hs
      by_cases hlt : k < L.length
      · have hkm := HM.out k hlt
        have ha : L[k]? = some L[k] := List.getElem?_eq_getElem hlt
        have hb : M[k]? = some (M[k]'hkm) := List.getElem?_eq_getElem hkm
        generalize L[k] = a at *
        generalize M[k]'hkm = b at *
        obtain ⟨A2, c2, hv, _, _, hr⟩ := HR1.out.on hbel
        obtain ⟨rfl, _, rfl⟩ : A = A2 ∧ True ∧ c = c2 := by simpa using hv
        obtain ⟨A2', c2', hv', _, _, hr'⟩ := HR2.out.on hbel
        obtain ⟨rfl, rfl⟩ : A' = A2' ∧ c' = c2' := by simp only [Value.slice.injEq] at hv'; exact ⟨hv'.1, hv'.2.2⟩
        obtain ⟨g, o, rfl, hg, x0, x1, x2, x3⟩ := hr k a ha
        obtain ⟨g', o', rfl, hg', y0, y1, y2, y3⟩ := hr' k b hb
        have HN := Lib.hid (fun h => sameG_no (q := nodEq false) ha hb h)
        have HY := Lib.hid (sameG_succ (q := nodEq false) ha hb)
        clear ha hb hr hr' hv hv' hbel
        cases e1 : nodEq false a b with
        | false =>
          have HE := Lib.hid e1
          clear e1
          go_wp2_with fail
          refine (eqNod_any a b _).mono ?_
          rw [HE.out]
          rintro e w1 ⟨rfl, hb⟩
          have HB2 := Lib.hid (((HB.out.alloc hsz _).alloc (by simp; omega) _).trans (hb.mono (by simp; omega)))
          clear hb
          go_wp2_with fail
          go_ret
          exact ⟨ret_bool (HN.out HE.out).symm, HB2.out⟩
        | true =>
          have HE := Lib.hid e1
          clear e1
          go_wp2_with fail
          refine (eqNod_any a b _).mono ?_
          rw [HE.out]
          rintro e w1 ⟨rfl, hb⟩
          have HB2 := Lib.hid (((HB.out.alloc hsz _).alloc (by simp; omega) _).trans (hb.mono (by simp; omega)))
          clear hb
          go_wp2_with fail
          go_roundw
          case rel => exact ⟨k + 1, by omega, by go_num, HB2.out, by rw [HY.out, HS.out, HE.out]; rfl⟩
          case measure => simp [intOf]; omega
      · have HQ := Lib.hid (sameG_all (by omega) HL.out HS.out)
        clear hbel
        go_wp2_with fail
        go_ret
        exact ⟨ret_bool HQ.out.symm, HB.out⟩
  · have HQ := Lib.hid (sameG_len (q := nodEq false) hL)
    have hd : ((L.length : Int) != (M.length : Int)) = true := by simp; omega
    clear hL
    go_enter Tryz.func65, Tryz.ntmps65
    go_wp2_with fail
    go_ret
    exact ⟨ret_bool HQ.out.symm, Below.refl _ _⟩
theorem same_any (v1 v2 : Value) (L M : List Nod) (w : World) (h1 : ReadN w v1 L) (h2 : ReadN w v2 M) (hl : L.length ≤ 10000) : Calls Tryz.prog 39 #[v1, v2] w (TellsB (sameN false L M) w) := by
  have HR1 := Lib.hid h1
  have HR2 := Lib.hid h2
  clear h1 h2
  go_enter Tryz.func39, Tryz.ntmps39
  go_wp2_with fail
  refine (equalFunc_any v1 v2 L M _ HR1.out HR2.out hl).mono ?_
  rintro e w1 ⟨rfl, hb⟩
  go_wp2_with fail
  go_ret
  exact ⟨rfl, hb⟩

set_option maxRecDepth 100000 in
set_option maxHeartbeats 4000000 in
theorem rsame_any (p : Bool) (v1 v2 : Value) (L M : List Nod) (w : World) (h1 : ReadN w v1 L) (h2 : ReadN w v2 M) (hl : L.length ≤ 10000) :
    Calls Tryz.prog 29 #[v1, v2, .bool p] w (TellsB (sameN p L M) w) := by
  obtain ⟨A, c, rfl, hc, _, hr1⟩ := h1
  obtain ⟨A', c', rfl, hc', _, hr2⟩ := h2
  have HR1 := Lib.hid hr1
  have HR2 := Lib.hid hr2
  clear hr1 hr2
  by_cases hL : L.length = M.length
  · rw [← hL]
    have HL := Lib.hid hL
    have hkM : ∀ k, k < L.length → k < M.length := by rw [hL]; exact fun _ h => h
    have HM := Lib.hid hkM
    clear hL hkM
    go_enter Tryz.func29, Tryz.ntmps29
    go_wp2_with fail
    go_loopw [7] (fun i wr => ∃ k n : Nat, k ≤ L.length ∧ i = .int .i64 k ∧ wr = w.drewN n ∧ sameG (nodEq p) (L.take k) (M.take k) = true) (fun i _ => L.length - (intOf i).toNat)
    case atStart => exact ⟨0, 0, Nat.zero_le _, rfl, rfl, rfl⟩
    case round =>
      obtain ⟨k, n, hk, rfl, rfl, hs⟩ := hrel
      have HS := Lib.hid hs
      clear hs
      by_cases hlt : k < L.length
      · have hkm := HM.out k hlt
        have ha : L[k]? = some L[k] := List.getElem?_eq_getElem hlt
        have hb : M[k]? = some (M[k]'hkm) := List.getElem?_eq_getElem hkm
        generalize L[k] = a at *
        generalize M[k]'hkm = b at *
        obtain ⟨g, o, rfl, hg, x0, x1, x2, x3⟩ := HR1.out k a ha
        obtain ⟨g', o', rfl, hg', y0, y1, y2, y3⟩ := HR2.out k b hb
        have HN := Lib.hid (fun h => sameG_no (q := nodEq p) ha hb h)
        have HY := Lib.hid (sameG_succ (q := nodEq p) ha hb)
        clear ha hb
        cases e1 : (a.op != b.op) with
        | true =>
          have HQ : Hid (nodEq p a b = false) := Lib.hid (by unfold nodEq; simp at e1; simp [e1])
          go_wp2_with fail
          go_quiet (fail)
          go_wp2_with fail
          go_ret
          exact ⟨ret_bool (HN.out HQ.out).symm, below_drews _ _ _⟩
        | false =>
          cases e2 : (a.n != b.n) with
          | true =>
            have HQ : Hid (nodEq p a b = false) := Lib.hid (by unfold nodEq; simp at e2; simp [e2])
            go_wp2_with fail
            go_quiet (fail)
            go_wp2_with fail
            go_ret
            exact ⟨ret_bool (HN.out HQ.out).symm, below_drews _ _ _⟩
          | false =>
            cases e3 : (a.name == b.name) with
            | false =>
              have HQ : Hid (nodEq p a b = false) := Lib.hid (by unfold nodEq; simp at e3; simp [e3])
              go_wp2_with fail
              go_quiet (fail)
              go_wp2_with fail
              go_ret
              exact ⟨ret_bool (HN.out HQ.out).symm, below_drews _ _ _⟩
            | true =>
              cases p with
              | false =>
                have HQ : Hid (nodEq false a b = true) := Lib.hid (by unfold nodEq; simp at e1 e2 e3; simp [e1, e2, e3])
                go_wp2_with fail
                go_quiet (fail)
                go_wp2_with fail
                go_roundw
                case rel => exact ⟨k + 1, _, by omega, by go_num, rfl, by rw [HY.out, HS.out, HQ.out]; rfl⟩
                case measure => simp [intOf]; omega
              | true =>
                cases e4 : (a.pl != b.pl) with
                | true =>
                  have HQ : Hid (nodEq true a b = false) := Lib.hid (by unfold nodEq; simp at e4; simp [e4])
                  go_wp2_with fail
                  go_quiet (fail)
                  go_wp2_with fail
                  go_ret
                  exact ⟨ret_bool (HN.out HQ.out).symm, below_drews _ _ _⟩
                | false =>
                  have HQ : Hid (nodEq true a b = true) := Lib.hid (by unfold nodEq; simp at e1 e2 e3 e4; simp [e1, e2, e3, e4])
                  go_wp2_with fail
                  go_quiet (fail)
                  go_wp2_with fail
                  go_roundw
                  case rel => exact ⟨k + 1, _, by omega, by go_num, rfl, by rw [HY.out, HS.out, HQ.out]; rfl⟩
                  case measure => simp [intOf]; omega
      · have HQ := Lib.hid (sameG_all (by omega) HL.out HS.out)
        go_wp2_with fail
        go_ret
        exact ⟨ret_bool HQ.out.symm, below_drew1 _ _⟩
  · have HQ := Lib.hid (sameG_len (q := nodEq p) hL)
    have hd : ((L.length : Int) != (M.length : Int)) = true := by simp; omega
    clear hL
    go_enter Tryz.func29, Tryz.ntmps29
    go_wp2_with fail
    go_ret
    exact ⟨ret_bool HQ.out.symm, Below.refl _ _⟩

end Go.Proofs.YtpeohfgadnfnpaaGreatDoor
/-
  DERIVED. Layer 4: the plain mathematics of statements: rows of them, bodies, how deep they are, which are right, their text; nothing of the program in it.
-/
namespace Go.Proofs.YtpeohfgadnfnpaaGreatDoor
open Go

/-- A statement: kind, register, name, expressions, number, how many its body's and its else's are, place. -/
structure Stm where
  kind : Int
  reg : List UInt8
  name : List UInt8
  e : List Nod
  f : List Nod
  n : Int
  body : Int
  els : Int
  pl : Int
deriving DecidableEq

/-- Statements one behind the other: the first one, its body, its else, the rest. -/
inductive Bk where
  | nil
  | cons (s : Stm) (b e r : Bk)
deriving DecidableEq
def Bk.count : Bk → Nat
  | .nil => 0
  | .cons _ b e r => b.count + e.count + r.count + 1
def Bk.flat : Bk → List Stm
  | .nil => []
  | .cons s b e r => s :: (b.flat ++ (e.flat ++ r.flat))
/-- Has a kind a block? -/
def blkK (k : Int) : Prop := k = 11 ∨ k = 12
instance (k : Int) : Decidable (blkK k) := inferInstanceAs (Decidable (_ ∨ _))
def Bk.deep : Bk → Nat
  | .nil => 0
  | .cons s b e r => max (if blkK s.kind then max (b.deep + 1) (e.deep + 1) else 0) r.deep
/-- Bodies are as many as is told, and those of an If or a Loop alone. -/
def Bk.fit : Bk → Prop
  | .nil => True
  | .cons s b e r => s.body = b.count ∧ s.els = e.count ∧ (0 < b.count → blkK s.kind) ∧ (0 < e.count → s.kind = 11) ∧ b.fit ∧ e.fit ∧ r.fit
/-- Each break is within a loop. -/
def Bk.brk : Nat → Bk → Bool
  | _, .nil => true
  | l, .cons s b e r => (!decide (s.kind = 13) || decide (0 < l)) && Bk.brk (if s.kind = 12 then l + 1 else l) b && Bk.brk (if s.kind = 12 then l + 1 else l) e && Bk.brk l r
theorem flat_count (b : Bk) : b.flat.length = b.count := by
  induction b with
  | nil => rfl
  | cons s b e r h1 h2 h3 => simp only [Bk.flat, Bk.count, List.length_cons, List.length_append, h1, h2, h3]; omega
theorem count_nil {b : Bk} (h : b.count = 0) : b = .nil := by
  cases b with
  | nil => rfl
  | cons s b e r => simp [Bk.count] at h

/-- May a statement stand at the head of so many: are its bodies there, and those of its kind? -/
def headOK (x : Stm) (n : Nat) : Prop := 0 ≤ x.body ∧ 0 ≤ x.els ∧ x.body + x.els ≤ n ∧ (0 < x.body → blkK x.kind) ∧ (0 < x.els → x.kind = 11)
instance (x : Stm) (n : Nat) : Decidable (headOK x n) := inferInstanceAs (Decidable (_ ∧ _ ∧ _ ∧ (_ → _) ∧ (_ → _)))
def bodyL (x : Stm) (r : List Stm) : List Stm := r.take x.body.toNat
def elseL (x : Stm) (r : List Stm) : List Stm := (r.drop x.body.toNat).take x.els.toNat
def restL (x : Stm) (r : List Stm) : List Stm := r.drop (x.body.toNat + x.els.toNat)
def treeF : Nat → List Stm → Option Bk
  | _, [] => some .nil
  | 0, _ :: _ => none
  | f + 1, x :: r => if headOK x r.length then
      match treeF f (bodyL x r), treeF f (elseL x r), treeF f (restL x r) with
      | some b, some e, some t => some (.cons x b e t)
      | _, _, _ => none
    else none
def treeS (L : List Stm) : Option Bk := treeF L.length L
theorem parts_len {x : Stm} {r : List Stm} (h : headOK x r.length) : ((bodyL x r).length : Int) = x.body ∧ ((elseL x r).length : Int) = x.els ∧ (restL x r).length + (x.body + x.els) = r.length := by
  obtain ⟨h1, h2, h3, _⟩ := h
  unfold bodyL elseL restL
  simp only [List.length_take, List.length_drop]
  omega
theorem parts_join (x : Stm) (r : List Stm) : bodyL x r ++ (elseL x r ++ restL x r) = r := by
  unfold bodyL elseL restL
  rw [← List.drop_drop, List.take_append_drop, List.take_append_drop]
theorem tree_back : ∀ (f : Nat) (L : List Stm) (b : Bk), treeF f L = some b → b.fit ∧ b.flat = L := by
  intro f
  induction f with
  | zero =>
    intro L b h
    cases L with
    | nil => simp [treeF] at h; subst h; exact ⟨trivial, rfl⟩
    | cons x r => simp [treeF] at h
  | succ f ih =>
    intro L b h
    cases L with
    | nil => simp [treeF] at h; subst h; exact ⟨trivial, rfl⟩
    | cons x r =>
      unfold treeF at h
      split at h
      · rename_i hh
        split at h
        · rename_i b1 e1 t1 h1 h2 h3
          simp at h; subst h
          obtain ⟨f1, g1⟩ := ih _ _ h1
          obtain ⟨f2, g2⟩ := ih _ _ h2
          obtain ⟨f3, g3⟩ := ih _ _ h3
          obtain ⟨l1, l2, l3⟩ := parts_len hh
          have c1 : (b1.count : Int) = x.body := by rw [← flat_count, g1]; exact l1
          have c2 : (e1.count : Int) = x.els := by rw [← flat_count, g2]; exact l2
          refine ⟨⟨c1.symm, c2.symm, fun h => hh.2.2.2.1 (by omega), fun h => hh.2.2.2.2 (by omega), f1, f2, f3⟩, ?_⟩
          show x :: (b1.flat ++ (e1.flat ++ t1.flat)) = x :: r
          rw [g1, g2, g3, parts_join]
        · cases h
      · cases h
theorem parts_flat (s : Stm) (b e r : Bk) (h : (Bk.cons s b e r).fit) : headOK s (b.flat ++ (e.flat ++ r.flat)).length ∧ bodyL s (b.flat ++ (e.flat ++ r.flat)) = b.flat ∧ elseL s (b.flat ++ (e.flat ++ r.flat)) = e.flat ∧ restL s (b.flat ++ (e.flat ++ r.flat)) = r.flat := by
  obtain ⟨h1, h2, h3, h4, _⟩ := h
  have e1 : s.body.toNat = b.flat.length := by rw [h1, flat_count]; simp
  have e2 : s.els.toNat = e.flat.length := by rw [h2, flat_count]; simp
  refine ⟨⟨by omega, by omega, ?_, fun h => h3 (by omega), fun h => h4 (by omega)⟩, ?_, ?_, ?_⟩
  · simp only [List.length_append, flat_count]; omega
  · unfold bodyL; rw [e1, List.take_left]
  · unfold elseL; rw [e1, e2, List.drop_left, List.take_left]
  · unfold restL; rw [e1, e2, ← List.drop_drop, List.drop_left, List.drop_left]
theorem tree_flat (b : Bk) : b.fit → ∀ f, b.count ≤ f → treeF f b.flat = some b := by
  induction b with
  | nil => intro _ f _; cases f <;> rfl
  | cons s b e r i1 i2 i3 =>
    intro h f hf
    simp only [Bk.count] at hf
    cases f with
    | zero => omega
    | succ f =>
      obtain ⟨p1, p2, p3, p4⟩ := parts_flat s b e r h
      show treeF (f + 1) (s :: (b.flat ++ (e.flat ++ r.flat))) = _
      unfold treeF
      rw [if_pos p1, p2, p3, p4, i1 h.2.2.2.2.1 f (by omega), i2 h.2.2.2.2.2.1 f (by omega), i3 h.2.2.2.2.2.2 f (by omega)]
theorem treeS_flat {b : Bk} (h : b.fit) : treeS b.flat = some b := tree_flat b h _ (by rw [flat_count]; exact Nat.le_refl _)
theorem treeS_some {L : List Stm} {b : Bk} (h : treeS L = some b) : b.fit ∧ b.flat = L := tree_back _ _ _ h
theorem treeF_eq {f : Nat} {L : List Stm} (h : L.length ≤ f) : treeF f L = treeS L := by
  cases h1 : treeF f L with
  | some b =>
    obtain ⟨h2, rfl⟩ := tree_back _ _ _ h1
    exact (treeS_flat h2).symm
  | none =>
    cases h2 : treeS L with
    | none => rfl
    | some b =>
      obtain ⟨h3, rfl⟩ := treeS_some h2
      rw [tree_flat b h3 f (by rw [← flat_count]; exact h)] at h1; cases h1

/-! ### What a kind has. -/
def hasTab : List (List UInt8) := [[], [114, 101], [114, 110], [110, 101], [114, 110, 101, 102], [110], [110], [], [], [110], [110], [101, 98], [107, 98], [], [101]]
def hasL (k : Int) : List UInt8 := if 1 ≤ k ∧ k ≤ 14 then hasTab.getD k.toNat [] else []
def hasC (k : Int) (c : UInt8) : Bool := (hasL k).any (fun x => x == c)
def kwTab : List (List UInt8) := [[], [], [108, 111, 97, 100], [115, 116, 111, 114, 101], [99, 97, 115], [102, 108, 117, 115, 104], [111, 112, 116], [115, 102, 101, 110, 99, 101], [109, 102, 101, 110, 99, 101], [116, 97, 107, 101], [103, 105, 118, 101], [105, 102], [108, 111, 111, 112], [98, 114, 101, 97, 107], [99, 104, 101, 99, 107]]
def kwL (k : Int) : List UInt8 := kwTab.getD k.toNat []
def elseW : List UInt8 := [101, 108, 115, 101]
/-- Has a statement just what its kind has, but for its body? -/
def fitS (x : Stm) : Bool := decide (1 ≤ x.kind) && decide (x.kind ≤ 14) && decide (0 ≤ x.pl) && decide (x.pl ≤ 4000) && (if hasC x.kind 114 then nameB x.reg else x.reg.isEmpty) && (if hasC x.kind 110 then nameB x.name else x.name.isEmpty) && (if hasC x.kind 101 then rightL x.e else x.e.isEmpty) && (if hasC x.kind 102 then rightL x.f else x.f.isEmpty) && (if hasC x.kind 107 then decide (1 ≤ x.n) && decide (x.n ≤ 8) else decide (x.n = 0))
/-- How deep statements are, if their bodies may be. -/
def deepS (l : Nat) (L : List Stm) : Option Nat := match treeS L with
  | some b => if b.brk l = true then some b.deep else none
  | none => none
def rightS (L : List Stm) : Bool := decide (L.length ≤ 40) && L.all fitS && (match deepS 0 L with
  | some d => decide (d ≤ 12)
  | none => false)
def depthS (L : List Stm) : Int := if rightS L = true then (match deepS 0 L with
  | some d => (d : Int)
  | none => -1) else -1
def GoodB (b : Bk) : Prop := b.fit ∧ b.flat.all fitS = true
theorem rightS_some {L : List Stm} (h : rightS L = true) : ∃ b : Bk, b.flat = L ∧ GoodB b ∧ b.count ≤ 40 ∧ b.brk 0 = true ∧ b.deep ≤ 12 ∧ treeS L = some b := by
  unfold rightS deepS at h
  simp only [Bool.and_eq_true, decide_eq_true_eq] at h
  obtain ⟨⟨h1, h2⟩, h3⟩ := h
  cases ht : treeS L with
  | none => rw [ht] at h3; cases h3
  | some b =>
    obtain ⟨g1, rfl⟩ := treeS_some ht
    rw [ht] at h3
    simp only at h3
    cases hb : b.brk 0 with
    | false => rw [hb] at h3; simp at h3
    | true =>
      rw [hb] at h3
      simp at h3
      exact ⟨b, rfl, ⟨g1, h2⟩, by rw [← flat_count]; exact h1, hb, h3, rfl⟩
theorem rightS_flat {b : Bk} (h : b.fit) : rightS b.flat = (decide (b.count ≤ 40) && b.flat.all fitS && b.brk 0 && decide (b.deep ≤ 12)) := by
  unfold rightS deepS
  rw [treeS_flat h, flat_count]
  cases hb : b.brk 0 <;> simp [hb]
theorem rightS_good {b : Bk} (h : GoodB b) (h1 : b.count ≤ 40) (h2 : b.brk 0 = true) (h3 : b.deep ≤ 12) : rightS b.flat = true := by
  rw [rightS_flat h.1, h.2, h2]; simp; omega
theorem depthS_right {b : Bk} (h : b.fit) (hr : rightS b.flat = true) : depthS b.flat = b.deep := by
  have := rightS_flat h
  rw [hr] at this
  have hb : b.brk 0 = true := by
    cases hb : b.brk 0 with
    | true => rfl
    | false => rw [hb] at this; simp at this
  unfold depthS deepS
  rw [hr, treeS_flat h]
  simp [hb]
theorem depthS_no {L : List Stm} (h : rightS L = false) : depthS L = -1 := by unfold depthS; rw [h]; rfl

/-! ### As a text. -/
def headS (x : Stm) : List UInt8 :=
  if x.kind = 1 then x.reg ++ ([32, 61, 32] ++ shownL x.e)
  else if x.kind = 2 then kwL 2 ++ (32 :: (x.reg ++ ([32, 61, 32] ++ x.name)))
  else if x.kind = 3 then kwL 3 ++ (32 :: (x.name ++ ([32, 61, 32] ++ shownL x.e)))
  else if x.kind = 4 then kwL 4 ++ (32 :: (x.reg ++ ([32, 61, 32] ++ (x.name ++ ([44, 32] ++ (shownL x.e ++ ([44, 32] ++ shownL x.f)))))))
  else if x.kind = 11 ∨ x.kind = 14 then kwL x.kind ++ (32 :: shownL x.e)
  else if x.kind = 12 then kwL 12 ++ (32 :: Lib.itoa x.n)
  else if x.kind = 7 ∨ x.kind = 8 ∨ x.kind = 13 then kwL x.kind
  else kwL x.kind ++ (32 :: x.name)
def linesB : List UInt8 → Bk → List UInt8
  | _, .nil => []
  | ind, .cons s b e r => ind ++ (headS s ++ ((if blkK s.kind then [32, 123, 10] ++ (linesB (ind ++ [32, 32]) b ++ ((if 0 < e.count then ind ++ ([125, 32] ++ elseW ++ [32, 123, 10]) ++ linesB (ind ++ [32, 32]) e else []) ++ (ind ++ [125, 10]))) else [59, 10]) ++ linesB ind r))
def showS (L : List Stm) : List UInt8 := if rightS L = true then (match treeS L with
  | some b => linesB [] b
  | none => []) else []
theorem showS_right {b : Bk} (h : b.fit) (hr : rightS b.flat = true) : showS b.flat = linesB [] b := by
  unfold showS; rw [if_pos hr, treeS_flat h]
theorem showS_no {L : List Stm} (h : rightS L = false) : showS L = [] := by unfold showS; rw [h]; rfl

/-! ### The same, but for places. -/
def stmEq (p : Bool) (a b : Stm) : Bool := a.kind == b.kind && a.reg == b.reg && a.name == b.name && a.n == b.n && a.body == b.body && a.els == b.els && (!p || a.pl == b.pl) && sameN p a.e b.e && sameN p a.f b.f
def sameSt (p : Bool) (L M : List Stm) : Bool := sameG (stmEq p) L M
end Go.Proofs.YtpeohfgadnfnpaaGreatDoor
