/-
  DERIVED. Texts of the walk, packed: StTree, RefKept.
-/
import Derived.Test.YtpeohfgadnfnpaaGreatDoorQ06
import Derived.Test.YtpeohfgadnfnpaaGreatDoorQ03
/-
  DERIVED. Layer 4: the plain mathematics of statements: rows of them, bodies, how deep they are, which are right, their text; nothing of the program in it.
-/
namespace Go.Proofs.YtpeohfgadnfnpaaGreatDoor
open Go

/-- A statement: kind, register, name, expressions, number, how many its body's and its else's are, place. -/
structure Stm where
  kind : Int
  reg : List UInt8
  name : List UInt8
  e : List Nod
  f : List Nod
  n : Int
  body : Int
  els : Int
  pl : Int
deriving DecidableEq

/-- Statements one behind the other: the first one, its body, its else, the rest. -/
inductive Bk where
  | nil
  | cons (s : Stm) (b e r : Bk)
deriving DecidableEq
def Bk.count : Bk → Nat
  | .nil => 0
  | .cons _ b e r => b.count + e.count + r.count + 1
def Bk.flat : Bk → List Stm
  | .nil => []
  | .cons s b e r => s :: (b.flat ++ (e.flat ++ r.flat))
/-- Has a kind a block? -/
def blkK (k : Int) : Prop := k = 11 ∨ k = 12
instance (k : Int) : Decidable (blkK k) := inferInstanceAs (Decidable (_ ∨ _))
def Bk.deep : Bk → Nat
  | .nil => 0
  | .cons s b e r => max (if blkK s.kind then max (b.deep + 1) (e.deep + 1) else 0) r.deep
/-- Bodies are as many as is told, and those of an If or a Loop alone. -/
def Bk.fit : Bk → Prop
  | .nil => True
  | .cons s b e r => s.body = b.count ∧ s.els = e.count ∧ (0 < b.count → blkK s.kind) ∧ (0 < e.count → s.kind = 11) ∧ b.fit ∧ e.fit ∧ r.fit
/-- Each break is within a loop. -/
def Bk.brk : Nat → Bk → Bool
  | _, .nil => true
  | l, .cons s b e r => (!decide (s.kind = 13) || decide (0 < l)) && Bk.brk (if s.kind = 12 then l + 1 else l) b && Bk.brk (if s.kind = 12 then l + 1 else l) e && Bk.brk l r
theorem flat_count (b : Bk) : b.flat.length = b.count := by
  induction b with
  | nil => rfl
  | cons s b e r h1 h2 h3 => simp only [Bk.flat, Bk.count, List.length_cons, List.length_append, h1, h2, h3]; omega
theorem count_nil {b : Bk} (h : b.count = 0) : b = .nil := by
  cases b with
  | nil => rfl
  | cons s b e r => simp [Bk.count] at h

/-- May a statement stand at the head of so many: are its bodies there, and those of its kind? -/
def headOK (x : Stm) (n : Nat) : Prop := 0 ≤ x.body ∧ 0 ≤ x.els ∧ x.body + x.els ≤ n ∧ (0 < x.body → blkK x.kind) ∧ (0 < x.els → x.kind = 11)
instance (x : Stm) (n : Nat) : Decidable (headOK x n) := inferInstanceAs (Decidable (_ ∧ _ ∧ _ ∧ (_ → _) ∧ (_ → _)))
def bodyL (x : Stm) (r : List Stm) : List Stm := r.take x.body.toNat
def elseL (x : Stm) (r : List Stm) : List Stm := (r.drop x.body.toNat).take x.els.toNat
def restL (x : Stm) (r : List Stm) : List Stm := r.drop (x.body.toNat + x.els.toNat)
def treeF : Nat → List Stm → Option Bk
  | _, [] => some .nil
  | 0, _ :: _ => none
  | f + 1, x :: r => if headOK x r.length then
      match treeF f (bodyL x r), treeF f (elseL x r), treeF f (restL x r) with
      | some b, some e, some t => some (.cons x b e t)
      | _, _, _ => none
    else none
def treeS (L : List Stm) : Option Bk := treeF L.length L
theorem parts_len {x : Stm} {r : List Stm} (h : headOK x r.length) : ((bodyL x r).length : Int) = x.body ∧ ((elseL x r).length : Int) = x.els ∧ (restL x r).length + (x.body + x.els) = r.length := by
  obtain ⟨h1, h2, h3, _⟩ := h
  unfold bodyL elseL restL
  simp only [List.length_take, List.length_drop]
  omega
theorem parts_join (x : Stm) (r : List Stm) : bodyL x r ++ (elseL x r ++ restL x r) = r := by
  unfold bodyL elseL restL
  rw [← List.drop_drop, List.take_append_drop, List.take_append_drop]
theorem tree_back : ∀ (f : Nat) (L : List Stm) (b : Bk), treeF f L = some b → b.fit ∧ b.flat = L := by
  intro f
  induction f with
  | zero =>
    intro L b h
    cases L with
    | nil => simp [treeF] at h; subst h; exact ⟨trivial, rfl⟩
    | cons x r => simp [treeF] at h
  | succ f ih =>
    intro L b h
    cases L with
    | nil => simp [treeF] at h; subst h; exact ⟨trivial, rfl⟩
    | cons x r =>
      unfold treeF at h
      split at h
      · rename_i hh
        split at h
        · rename_i b1 e1 t1 h1 h2 h3
          simp at h; subst h
          obtain ⟨f1, g1⟩ := ih _ _ h1
          obtain ⟨f2, g2⟩ := ih _ _ h2
          obtain ⟨f3, g3⟩ := ih _ _ h3
          obtain ⟨l1, l2, l3⟩ := parts_len hh
          have c1 : (b1.count : Int) = x.body := by rw [← flat_count, g1]; exact l1
          have c2 : (e1.count : Int) = x.els := by rw [← flat_count, g2]; exact l2
          refine ⟨⟨c1.symm, c2.symm, fun h => hh.2.2.2.1 (by omega), fun h => hh.2.2.2.2 (by omega), f1, f2, f3⟩, ?_⟩
          show x :: (b1.flat ++ (e1.flat ++ t1.flat)) = x :: r
          rw [g1, g2, g3, parts_join]
        · cases h
      · cases h
theorem parts_flat (s : Stm) (b e r : Bk) (h : (Bk.cons s b e r).fit) : headOK s (b.flat ++ (e.flat ++ r.flat)).length ∧ bodyL s (b.flat ++ (e.flat ++ r.flat)) = b.flat ∧ elseL s (b.flat ++ (e.flat ++ r.flat)) = e.flat ∧ restL s (b.flat ++ (e.flat ++ r.flat)) = r.flat := by
  obtain ⟨h1, h2, h3, h4, _⟩ := h
  have e1 : s.body.toNat = b.flat.length := by rw [h1, flat_count]; simp
  have e2 : s.els.toNat = e.flat.length := by rw [h2, flat_count]; simp
  refine ⟨⟨by omega, by omega, ?_, fun h => h3 (by omega), fun h => h4 (by omega)⟩, ?_, ?_, ?_⟩
  · simp only [List.length_append, flat_count]; omega
  · unfold bodyL; rw [e1, List.take_left]
  · unfold elseL; rw [e1, e2, List.drop_left, List.take_left]
  · unfold restL; rw [e1, e2, ← List.drop_drop, List.drop_left, List.drop_left]
theorem tree_flat (b : Bk) : b.fit → ∀ f, b.count ≤ f → treeF f b.flat = some b := by
  induction b with
  | nil => intro _ f _; cases f <;> rfl
  | cons s b e r i1 i2 i3 =>
    intro h f hf
    simp only [Bk.count] at hf
    cases f with
    | zero => omega
    | succ f =>
      obtain ⟨p1, p2, p3, p4⟩ := parts_flat s b e r h
      show treeF (f + 1) (s :: (b.flat ++ (e.flat ++ r.flat))) = _
      unfold treeF
      rw [if_pos p1, p2, p3, p4, i1 h.2.2.2.2.1 f (by omega), i2 h.2.2.2.2.2.1 f (by omega), i3 h.2.2.2.2.2.2 f (by omega)]
theorem treeS_flat {b : Bk} (h : b.fit) : treeS b.flat = some b := tree_flat b h _ (by rw [flat_count]; exact Nat.le_refl _)
theorem treeS_some {L : List Stm} {b : Bk} (h : treeS L = some b) : b.fit ∧ b.flat = L := tree_back _ _ _ h
theorem treeF_eq {f : Nat} {L : List Stm} (h : L.length ≤ f) : treeF f L = treeS L := by
  cases h1 : treeF f L with
  | some b =>
    obtain ⟨h2, rfl⟩ := tree_back _ _ _ h1
    exact (treeS_flat h2).symm
  | none =>
    cases h2 : treeS L with
    | none => rfl
    | some b =>
      obtain ⟨h3, rfl⟩ := treeS_some h2
      rw [tree_flat b h3 f (by rw [← flat_count]; exact h)] at h1; cases h1

/-! ### What a kind has. -/
def hasTab : List (List UInt8) := [[], [114, 101], [114, 110], [110, 101], [114, 110, 101, 102], [110], [110], [], [], [110], [110], [101, 98], [107, 98], [], [101]]
def hasL (k : Int) : List UInt8 := if 1 ≤ k ∧ k ≤ 14 then hasTab.getD k.toNat [] else []
def hasC (k : Int) (c : UInt8) : Bool := (hasL k).any (fun x => x == c)
def kwTab : List (List UInt8) := [[], [], [108, 111, 97, 100], [115, 116, 111, 114, 101], [99, 97, 115], [102, 108, 117, 115, 104], [111, 112, 116], [115, 102, 101, 110, 99, 101], [109, 102, 101, 110, 99, 101], [116, 97, 107, 101], [103, 105, 118, 101], [105, 102], [108, 111, 111, 112], [98, 114, 101, 97, 107], [99, 104, 101, 99, 107]]
def kwL (k : Int) : List UInt8 := kwTab.getD k.toNat []
def elseW : List UInt8 := [101, 108, 115, 101]
/-- Has a statement just what its kind has, but for its body? -/
def fitS (x : Stm) : Bool := decide (1 ≤ x.kind) && decide (x.kind ≤ 14) && decide (0 ≤ x.pl) && decide (x.pl ≤ 4000) && (if hasC x.kind 114 then nameB x.reg else x.reg.isEmpty) && (if hasC x.kind 110 then nameB x.name else x.name.isEmpty) && (if hasC x.kind 101 then rightL x.e else x.e.isEmpty) && (if hasC x.kind 102 then rightL x.f else x.f.isEmpty) && (if hasC x.kind 107 then decide (1 ≤ x.n) && decide (x.n ≤ 8) else decide (x.n = 0))
/-- How deep statements are, if their bodies may be. -/
def deepS (l : Nat) (L : List Stm) : Option Nat := match treeS L with
  | some b => if b.brk l = true then some b.deep else none
  | none => none
def rightS (L : List Stm) : Bool := decide (L.length ≤ 40) && L.all fitS && (match deepS 0 L with
  | some d => decide (d ≤ 12)
  | none => false)
def depthS (L : List Stm) : Int := if rightS L = true then (match deepS 0 L with
  | some d => (d : Int)
  | none => -1) else -1
def GoodB (b : Bk) : Prop := b.fit ∧ b.flat.all fitS = true
theorem rightS_some {L : List Stm} (h : rightS L = true) : ∃ b : Bk, b.flat = L ∧ GoodB b ∧ b.count ≤ 40 ∧ b.brk 0 = true ∧ b.deep ≤ 12 ∧ treeS L = some b := by
  unfold rightS deepS at h
  simp only [Bool.and_eq_true, decide_eq_true_eq] at h
  obtain ⟨⟨h1, h2⟩, h3⟩ := h
  cases ht : treeS L with
  | none => rw [ht] at h3; cases h3
  | some b =>
    obtain ⟨g1, rfl⟩ := treeS_some ht
    rw [ht] at h3
    simp only at h3
    cases hb : b.brk 0 with
    | false => rw [hb] at h3; simp at h3
    | true =>
      rw [hb] at h3
      simp at h3
      exact ⟨b, rfl, ⟨g1, h2⟩, by rw [← flat_count]; exact h1, hb, h3, rfl⟩
theorem rightS_flat {b : Bk} (h : b.fit) : rightS b.flat = (decide (b.count ≤ 40) && b.flat.all fitS && b.brk 0 && decide (b.deep ≤ 12)) := by
  unfold rightS deepS
  rw [treeS_flat h, flat_count]
  cases hb : b.brk 0 <;> simp [hb]
theorem rightS_good {b : Bk} (h : GoodB b) (h1 : b.count ≤ 40) (h2 : b.brk 0 = true) (h3 : b.deep ≤ 12) : rightS b.flat = true := by
  rw [rightS_flat h.1, h.2, h2]; simp; omega
theorem depthS_right {b : Bk} (h : b.fit) (hr : rightS b.flat = true) : depthS b.flat = b.deep := by
  have := rightS_flat h
  rw [hr] at this
  have hb : b.brk 0 = true := by
    cases hb : b.brk 0 with
    | true => rfl
    | false => rw [hb] at this; simp at this
  unfold depthS deepS
  rw [hr, treeS_flat h]
  simp [hb]
theorem depthS_no {L : List Stm} (h : rightS L = false) : depthS L = -1 := by unfold depthS; rw [h]; rfl

/-! ### As a text. -/
def headS (x : Stm) : List UInt8 :=
  if x.kind = 1 then x.reg ++ ([32, 61, 32] ++ shownL x.e)
  else if x.kind = 2 then kwL 2 ++ (32 :: (x.reg ++ ([32, 61, 32] ++ x.name)))
  else if x.kind = 3 then kwL 3 ++ (32 :: (x.name ++ ([32, 61, 32] ++ shownL x.e)))
  else if x.kind = 4 then kwL 4 ++ (32 :: (x.reg ++ ([32, 61, 32] ++ (x.name ++ ([44, 32] ++ (shownL x.e ++ ([44, 32] ++ shownL x.f)))))))
  else if x.kind = 11 ∨ x.kind = 14 then kwL x.kind ++ (32 :: shownL x.e)
  else if x.kind = 12 then kwL 12 ++ (32 :: Lib.itoa x.n)
  else if x.kind = 7 ∨ x.kind = 8 ∨ x.kind = 13 then kwL x.kind
  else kwL x.kind ++ (32 :: x.name)
def linesB : List UInt8 → Bk → List UInt8
  | _, .nil => []
  | ind, .cons s b e r => ind ++ (headS s ++ ((if blkK s.kind then [32, 123, 10] ++ (linesB (ind ++ [32, 32]) b ++ ((if 0 < e.count then ind ++ ([125, 32] ++ elseW ++ [32, 123, 10]) ++ linesB (ind ++ [32, 32]) e else []) ++ (ind ++ [125, 10]))) else [59, 10]) ++ linesB ind r))
def showS (L : List Stm) : List UInt8 := if rightS L = true then (match treeS L with
  | some b => linesB [] b
  | none => []) else []
theorem showS_right {b : Bk} (h : b.fit) (hr : rightS b.flat = true) : showS b.flat = linesB [] b := by
  unfold showS; rw [if_pos hr, treeS_flat h]
theorem showS_no {L : List Stm} (h : rightS L = false) : showS L = [] := by unfold showS; rw [h]; rfl

/-! ### The same, but for places. -/
def stmEq (p : Bool) (a b : Stm) : Bool := a.kind == b.kind && a.reg == b.reg && a.name == b.name && a.n == b.n && a.body == b.body && a.els == b.els && (!p || a.pl == b.pl) && sameN p a.e b.e && sameN p a.f b.f
def sameSt (p : Bool) (L M : List Stm) : Bool := sameG (stmEq p) L M
end Go.Proofs.YtpeohfgadnfnpaaGreatDoor
/-
  DERIVED. Layer 3: contracts of those that the laws hold Kept and Name against.
-/
namespace Go.Proofs.YtpeohfgadnfnpaaGreatDoor
open Go.RowKit

def keptVals : Array Value := #[.string ⟨#[108, 105, 110, 101]⟩, .string ⟨#[118, 111, 108]⟩, .string ⟨#[108, 111, 99, 107]⟩, .string ⟨#[116, 104, 114, 101, 97, 100]⟩, .string ⟨#[114, 101, 103]⟩, .string ⟨#[108, 111, 97, 100]⟩, .string ⟨#[115, 116, 111, 114, 101]⟩, .string ⟨#[99, 97, 115]⟩, .string ⟨#[102, 108, 117, 115, 104]⟩, .string ⟨#[111, 112, 116]⟩, .string ⟨#[115, 102, 101, 110, 99, 101]⟩, .string ⟨#[109, 102, 101, 110, 99, 101]⟩, .string ⟨#[116, 97, 107, 101]⟩, .string ⟨#[103, 105, 118, 101]⟩, .string ⟨#[105, 102]⟩, .string ⟨#[101, 108, 115, 101]⟩, .string ⟨#[108, 111, 111, 112]⟩, .string ⟨#[98, 114, 101, 97, 107]⟩, .string ⟨#[99, 104, 101, 99, 107]⟩, .string ⟨#[114, 101, 99, 111, 118, 101, 114]⟩, .string ⟨#[97, 108, 119, 97, 121, 115]⟩]
theorem kept_len : keptTab.length = 21 := rfl
theorem kept_get {k : Nat} (hk : k < 21) : keptTab[k]? = some (keptTab.getD k []) := by
  rw [List.getD_eq_getElem?_getD, List.getElem?_eq_getElem (show k < keptTab.length from hk)]; rfl
theorem kept_vals : keptVals.toList = keptTab.map fun t => Value.string ⟨t.toArray⟩ := rfl
theorem kept_cell (w : World) : (∀ k, k < 21 → (w.alloc (.cells keptVals 9)).cell? ⟨w.heap.size, k, none⟩ = some (.string ⟨(keptTab.getD k []).toArray⟩)) ∧ Below w.heap.size w (w.alloc (.cells keptVals 9)) := by
  refine ⟨fun k hk => ?_, (Below.refl _ _).alloc (Nat.le_refl _) _⟩
  rw [cell_of_row (w.alloc (.cells keptVals 9)) w.heap.size k keptVals 9 (0, 0) (heap_alloc_new w _)]
  have h := kept_vals
  have h1 : keptVals.toList[k]? = some (.string ⟨(keptTab.getD k []).toArray⟩) := by rw [h, List.getElem?_map, kept_get hk]; rfl
  simpa using h1
theorem any_succ {l : List UInt8} {L : List (List UInt8)} {k : Nat} {t : List UInt8} (ht : L[k]? = some t) (h : (L.take k).any (fun t => t == l) = false) (hp : (t == l) = false) : (L.take (k + 1)).any (fun t => t == l) = false := by
  rw [List.take_add_one, ht, List.any_append, h]; simp; simpa using hp
theorem any_hit {l : List UInt8} {L : List (List UInt8)} {k : Nat} {t : List UInt8} (ht : L[k]? = some t) (hp : (t == l) = true) : L.any (fun t => t == l) = true := by
  rw [List.any_eq_true]; exact ⟨t, List.mem_of_getElem? ht, hp⟩

set_option maxHeartbeats 2000000 in
theorem rkept_any (s : ByteArray) (w : World) : Calls Tryz.prog 90 #[.string s] w (TellsB (keptB s.data.toList) w) := by
  have hk := kept_cell w
  go_enter Tryz.func90, Tryz.ntmps90
  go_wp2_with fail
  change Code.wp _ _ _ _ (w.alloc (.cells keptVals 9))
  generalize w.alloc (.cells keptVals 9) = W at *
  have HK := Lib.hid hk.1
  have HB := Lib.hid hk.2
  clear hk
  go_loop [4] (fun i => ∃ k : Nat, k ≤ 21 ∧ i = .int .i64 k ∧ (keptTab.take k).any (fun t => t == s.data.toList) = false) (fun i => 21 - (intOf i).toNat)
  case atStart => exact ⟨0, Nat.zero_le _, rfl, rfl⟩
  case round =>
    obtain ⟨k, hk, rfl, ha⟩ := hrel
    have HA := Lib.hid ha
    clear ha
    by_cases hlt : k < 21
    · have hc := HK.out k hlt
      have HG := Lib.hid (kept_get hlt)
      generalize keptTab.getD k [] = t at *
      cases hp : (t == s.toList) with
      | true =>
        have HR : Hid (keptB s.data.toList = true) := Lib.hid (any_hit HG.out (by rw [← ByteArray.toList_eq]; exact hp))
        go_wp2_with fail
        go_ret
        exact ⟨ret_bool HR.out.symm, HB.out⟩
      | false =>
        have HR := Lib.hid (any_succ HG.out HA.out (by rw [← ByteArray.toList_eq]; exact hp))
        go_wp2_with fail
        go_round
        case rel => exact ⟨k + 1, by omega, by go_num, HR.out⟩
        case measure => simp [intOf]; omega
    · obtain rfl : k = 21 := by omega
      have HR : Hid (keptB s.data.toList = false) := Lib.hid HA.out
      go_wp2_with fail
      go_ret
      exact ⟨ret_bool HR.out.symm, HB.out⟩

set_option maxHeartbeats 4000000 in
theorem rname_any (s : ByteArray) (w : World) (hs : s.size ≤ 100000) : Calls Tryz.prog 57 #[.string s] w (TellsB (nameB s.data.toList) w) := by
  by_cases h0 : 0 < s.size
  · have hE := name_eq s h0
    have hz : ¬ (s.size : Int) < 1 := by omega
    by_cases h1 : s.size ≤ 16
    · have hz1 : ¬ (16 : Int) < (s.size : Int) := by omega
      cases h2 : letB (s[0]'h0) with
      | false =>
        have HR : Hid (nameB s.data.toList = false) := Lib.hid (by rw [hE, h2]; simp)
        have H2 := Lib.hid h2
        clear hE h2
        go_enter Tryz.func57, Tryz.ntmps57
        go_wp2_with fail
        refine (rletter_any _ _).mono ?_
        rw [H2.out]
        rintro e w' ⟨rfl, rfl⟩
        go_wp2_with fail
        go_ret
        exact ⟨ret_bool HR.out.symm, Below.refl _ _⟩
      | true =>
        cases h4 : keptB s.data.toList with
        | true =>
          have HR : Hid (nameB s.data.toList = false) := Lib.hid (by rw [hE, h4]; simp)
          have H2 := Lib.hid h2
          have H4 := Lib.hid h4
          clear hE h2 h4
          go_enter Tryz.func57, Tryz.ntmps57
          go_wp2_with fail
          refine (rletter_any _ _).mono ?_
          rw [H2.out]
          rintro e w' ⟨rfl, rfl⟩
          go_wp2_with fail
          refine (rkept_any s _).mono ?_
          rw [H4.out]
          rintro e w1 ⟨rfl, hb⟩
          go_wp2_with fail
          go_ret
          exact ⟨ret_bool HR.out.symm, hb⟩
        | false =>
          have HR : Hid (nameB s.data.toList = s.data.toList.all wrdB) := Lib.hid (by rw [hE, h2, h4]; simp [h1])
          have H2 := Lib.hid h2
          have H4 := Lib.hid h4
          clear hE h2 h4
          go_enter Tryz.func57, Tryz.ntmps57
          go_wp2_with fail
          refine (rletter_any _ _).mono ?_
          rw [H2.out]
          rintro e w' ⟨rfl, rfl⟩
          go_wp2_with fail
          refine (rkept_any s _).mono ?_
          rw [H4.out]
          rintro e w1 ⟨rfl, hb⟩
          go_wp2_with fail
          go_loop [3] (fun i => ∃ k : Nat, k ≤ s.size ∧ i = .int .i64 k ∧ (s.data.toList.take k).all wrdB = true) (fun i => s.size - (intOf i).toNat)
          case atStart => exact ⟨0, Nat.zero_le _, rfl, rfl⟩
          case round =>
            obtain ⟨k, hk, rfl, ha⟩ := hrel
            have HA := Lib.hid ha
            clear ha
            by_cases hlt : k < s.size
            · cases h5 : letB (s[k]'hlt) with
              | true =>
                have HS := Lib.hid (all_snoc wrdB s k hlt HA.out (wrd_let h5))
                have H5 := Lib.hid h5
                clear h5
                go_wp2_with fail
                refine (rletter_any _ _).mono ?_
                rw [H5.out]
                rintro e w' ⟨rfl, rfl⟩
                go_wp2_with fail
                go_round
                case rel => exact ⟨k + 1, by omega, by go_num, HS.out⟩
                case measure => simp [intOf]; omega
              | false =>
                cases h6 : digB (s[k]'hlt) with
                | true =>
                  have HS := Lib.hid (all_snoc wrdB s k hlt HA.out ((wrd_not h5).trans h6))
                  have H5 := Lib.hid h5
                  have H6 := Lib.hid h6
                  clear h5 h6
                  go_wp2_with fail
                  refine (rletter_any _ _).mono ?_
                  rw [H5.out]
                  rintro e w' ⟨rfl, rfl⟩
                  go_wp2_with fail
                  refine (rdigit_any _ _).mono ?_
                  rw [H6.out]
                  rintro e w' ⟨rfl, rfl⟩
                  go_wp2_with fail
                  go_round
                  case rel => exact ⟨k + 1, by omega, by go_num, HS.out⟩
                  case measure => simp [intOf]; omega
                | false =>
                  have HQ : Hid (s.data.toList.all wrdB = false) := Lib.hid (by
                    rw [List.all_eq_false]
                    exact ⟨s[k], by rw [show s[k] = s.data.toList[k]'(by rw [len_data]; exact hlt) from rfl]; exact List.getElem_mem _, by rw [wrd_not h5, h6]; simp⟩)
                  have H5 := Lib.hid h5
                  have H6 := Lib.hid h6
                  clear h5 h6
                  go_wp2_with fail
                  refine (rletter_any _ _).mono ?_
                  rw [H5.out]
                  rintro e w' ⟨rfl, rfl⟩
                  go_wp2_with fail
                  refine (rdigit_any _ _).mono ?_
                  rw [H6.out]
                  rintro e w' ⟨rfl, rfl⟩
                  go_wp2_with fail
                  go_ret
                  exact ⟨ret_bool (by rw [HR.out, HQ.out]), hb⟩
            · have hA := HA.out
              rw [take_all s k hlt] at hA
              have HQ := Lib.hid hA
              clear hA
              go_wp2_with fail
              go_ret
              exact ⟨ret_bool (by rw [HR.out, HQ.out]), hb⟩
    · have HR : Hid (nameB s.data.toList = false) := Lib.hid (by rw [hE]; simp [h1])
      have hz1 : (16 : Int) < (s.size : Int) := by omega
      clear hE
      go_enter Tryz.func57, Tryz.ntmps57
      go_wp2_with fail
      go_ret
      exact ⟨ret_bool HR.out.symm, Below.refl _ _⟩
  · have HR := Lib.hid (name_empty s (by omega))
    have hz : (s.size : Int) < 1 := by omega
    go_enter Tryz.func57, Tryz.ntmps57
    go_wp2_with fail
    go_ret
    exact ⟨ret_bool HR.out.symm, Below.refl _ _⟩
end Go.Proofs.YtpeohfgadnfnpaaGreatDoor
