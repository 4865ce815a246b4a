/-
  DERIVED. Texts of the walk, packed: Tok, Pure.
-/
/-
  DERIVED. Layer 2: the plain mathematics of texts and their tokens, with nothing of the program in it.
-/
namespace Go.Proofs.YtpeohfgadnfnpaaGreatDoor

/-- Is a byte a digit? -/
def digB (c : UInt8) : Bool := decide (48 ≤ c.toNat) && decide (c.toNat ≤ 57)
/-- Is it a letter, one of a word, of a line, a blank? -/
def letB (c : UInt8) : Bool := (decide (97 ≤ c.toNat) && decide (c.toNat ≤ 122)) || decide (c.toNat = 95)
def wrdB (c : UInt8) : Bool := letB c || digB c
def linB (c : UInt8) : Bool := !decide (c.toNat = 10)
def blkB (c : UInt8) : Bool := decide (c.toNat = 32) || decide (c.toNat = 9) || decide (c.toNat = 10) || decide (c.toNat = 13)
/-- What digits tell. -/
def valFrom (n : Nat) (l : List UInt8) : Nat := l.foldl (fun n c => n * 10 + (c.toNat - 48)) n
def valN (l : List UInt8) : Nat := valFrom 0 l

/-- A token: kind, text, number, place. -/
structure Tok where
  kind : Int
  text : List UInt8
  n : Int
  pl : Nat
deriving DecidableEq

def signTab : List (List UInt8) := [[61, 61], [33, 61], [60, 61], [38, 38], [124, 124], [40], [41], [123], [125], [59], [44], [61], [60], [33], [43], [45], [42], [47], [37]]
def signOf (l : List UInt8) : Option (List UInt8) := signTab.find? (fun t => t.isPrefixOf l)

/-- What the token is with which a text begins: an error, or kind, text and number (then the error is 0). -/
structure Cut where
  err : Int
  kind : Int
  text : List UInt8
  n : Int
deriving DecidableEq
def Cut.no (e : Int) : Cut := ⟨e, 0, [], 0⟩
def wordCut (l : List UInt8) : Cut := if 16 < (l.takeWhile wrdB).length then .no 2 else ⟨0, 1, l.takeWhile wrdB, 0⟩
def numCut (l : List UInt8) : Cut := if 4294967296 < valN (l.takeWhile digB) then .no 4 else ⟨0, 2, l.takeWhile digB, valN (l.takeWhile digB)⟩
def signCut (l : List UInt8) : Cut := match signOf l with
  | some t => ⟨0, 3, t, 0⟩
  | none => .no 3
def cutOf (l : List UInt8) : Cut := match l with
  | [] => .no 3
  | c :: _ => if letB c = true then wordCut l else if digB c = true then numCut l else signCut l

/-- What is found of a text: tokens, an error, a place. -/
structure Found where
  toks : List Tok
  err : Int
  pl : Nat
deriving DecidableEq
def Found.fail (e : Int) (a : Nat) : Found := ⟨[], e, a⟩
def Found.fine (l : List Tok) : Found := ⟨l, 0, 0⟩
/-- Tokens ahead of what is found. -/
def Found.pre (l : List Tok) (f : Found) : Found := if f.err = 0 then ⟨l ++ f.toks, 0, 0⟩ else ⟨[], f.err, f.pl⟩

def isRem (l : List UInt8) : Bool := [47, 47].isPrefixOf l

def scanF : Nat → List UInt8 → Nat → Found
  | 0, _, _ => .fine []
  | _ + 1, [], _ => .fine []
  | f + 1, c :: r, a =>
    if blkB c = true then scanF f r (a + 1)
    else if isRem (c :: r) = true then scanF f ((c :: r).dropWhile linB) (a + ((c :: r).takeWhile linB).length)
    else if (cutOf (c :: r)).err = 0 then
      (scanF f ((c :: r).drop (cutOf (c :: r)).text.length) (a + (cutOf (c :: r)).text.length)).pre [⟨(cutOf (c :: r)).kind, (cutOf (c :: r)).text, (cutOf (c :: r)).n, a⟩]
    else .fail (cutOf (c :: r)).err a
/-- The tokens of a text that is not too long. -/
def scanL (l : List UInt8) (a : Nat) : Found := scanF l.length l a
def scanV (l : List UInt8) : Found := if 4000 < l.length then .fail 2 4000 else scanL l 0

/-! ### A cut that is right takes at least one byte, and stands ahead. -/
theorem takeWhile_prefix (p : UInt8 → Bool) (l : List UInt8) : l.takeWhile p ++ l.dropWhile p = l := List.takeWhile_append_dropWhile
theorem signOf_some {l t : List UInt8} (h : signOf l = some t) : t ∈ signTab ∧ t <+: l := by
  unfold signOf at h
  exact ⟨List.mem_of_find?_eq_some h, by simpa using List.find?_some h⟩
theorem signTab_len {t : List UInt8} (h : t ∈ signTab) : 1 ≤ t.length ∧ t.length ≤ 2 := by
  revert t; decide
theorem no_err {e : Int} (he : e ≠ 0) : (Cut.no e).err ≠ 0 := he
theorem cutOf_word {c : UInt8} (r : List UInt8) (h : letB c = true) : cutOf (c :: r) = wordCut (c :: r) := by simp [cutOf, h]
theorem cutOf_num {c : UInt8} (r : List UInt8) (h : letB c = false) (h2 : digB c = true) : cutOf (c :: r) = numCut (c :: r) := by simp [cutOf, h, h2]
theorem cutOf_sign {c : UInt8} (r : List UInt8) (h : letB c = false) (h2 : digB c = false) : cutOf (c :: r) = signCut (c :: r) := by simp [cutOf, h, h2]
theorem word_head {c : UInt8} (r : List UInt8) (h : letB c = true) : (c :: r).takeWhile wrdB = c :: r.takeWhile wrdB := by
  rw [List.takeWhile_cons, if_pos (by unfold wrdB; rw [h]; rfl)]
theorem num_head {c : UInt8} (r : List UInt8) (h : digB c = true) : (c :: r).takeWhile digB = c :: r.takeWhile digB := by
  rw [List.takeWhile_cons, if_pos h]
theorem word_ok {l : List UInt8} (h : (wordCut l).err = 0) : (l.takeWhile wrdB).length ≤ 16 ∧ wordCut l = ⟨0, 1, l.takeWhile wrdB, 0⟩ := by
  unfold wordCut at *
  split at h
  · exact absurd h (by decide)
  · rename_i hl
    rw [if_neg hl]; exact ⟨by omega, rfl⟩
theorem num_ok {l : List UInt8} (h : (numCut l).err = 0) : valN (l.takeWhile digB) ≤ 4294967296 ∧ numCut l = ⟨0, 2, l.takeWhile digB, valN (l.takeWhile digB)⟩ := by
  unfold numCut at *
  split at h
  · exact absurd h (by decide)
  · rename_i hl
    rw [if_neg hl]; exact ⟨by omega, rfl⟩
theorem sign_ok {l : List UInt8} (h : (signCut l).err = 0) : ∃ t, signOf l = some t ∧ signCut l = ⟨0, 3, t, 0⟩ := by
  unfold signCut at *
  cases hs : signOf l with
  | none => rw [hs] at h; exact absurd h (by decide)
  | some t => exact ⟨t, rfl, rfl⟩
theorem cut_ok {l : List UInt8} (h : (cutOf l).err = 0) : (cutOf l).text <+: l ∧ 1 ≤ (cutOf l).text.length := by
  cases l with
  | nil => exact absurd h (by decide)
  | cons c r =>
    cases h1 : letB c with
    | true =>
      rw [cutOf_word r h1] at *
      rw [(word_ok h).2]
      exact ⟨⟨_, takeWhile_prefix wrdB (c :: r)⟩, by show 1 ≤ ((c :: r).takeWhile wrdB).length; rw [word_head r h1]; simp⟩
    | false =>
      cases h2 : digB c with
      | true =>
        rw [cutOf_num r h1 h2] at *
        rw [(num_ok h).2]
        exact ⟨⟨_, takeWhile_prefix digB (c :: r)⟩, by show 1 ≤ ((c :: r).takeWhile digB).length; rw [num_head r h2]; simp⟩
      | false =>
        rw [cutOf_sign r h1 h2] at *
        obtain ⟨t, hs, e⟩ := sign_ok h
        rw [e]
        have := signOf_some hs
        exact ⟨this.2, (signTab_len this.1).1⟩

theorem rem_len {c : UInt8} {r : List UInt8} (h : isRem (c :: r) = true) : 1 ≤ ((c :: r).takeWhile linB).length := by
  have : c = 47 := by
    unfold isRem at h
    simp [List.isPrefixOf] at h
    exact h.1.symm
  subst this
  rw [List.takeWhile_cons, if_pos (by decide)]
  simp
theorem dropWhile_len (p : UInt8 → Bool) (l : List UInt8) : (l.dropWhile p).length + (l.takeWhile p).length = l.length := by
  have := congrArg List.length (takeWhile_prefix p l)
  rw [List.length_append] at this
  omega
theorem dropWhile_drop (p : UInt8 → Bool) (l : List UInt8) : l.dropWhile p = l.drop (l.takeWhile p).length := by
  have h := takeWhile_prefix p l
  generalize l.takeWhile p = a at *
  generalize l.dropWhile p = b at *
  subst h
  rw [List.drop_append]; simp

/-- Fuel beyond the length makes no difference. -/
theorem scanF_fuel : ∀ (f g : Nat) (l : List UInt8) (a : Nat), l.length ≤ f → l.length ≤ g → scanF f l a = scanF g l a := by
  intro f
  induction f with
  | zero =>
    intro g l a hf _
    have : l = [] := List.length_eq_zero_iff.1 (by omega)
    subst this
    cases g <;> rfl
  | succ f ih =>
    intro g l a hf hg
    cases l with
    | nil => cases g <;> rfl
    | cons c r =>
      cases g with
      | zero => simp at hg
      | succ g =>
        simp only [List.length_cons] at hf hg
        unfold scanF
        by_cases h1 : blkB c = true
        · rw [if_pos h1, if_pos h1]; exact ih g r _ (by omega) (by omega)
        · rw [if_neg h1, if_neg h1]
          by_cases h2 : isRem (c :: r) = true
          · rw [if_pos h2, if_pos h2]
            have e1 := dropWhile_len linB (c :: r)
            have e2 := rem_len h2
            simp only [List.length_cons] at e1
            exact ih g _ _ (by omega) (by omega)
          · rw [if_neg h2, if_neg h2]
            by_cases h3 : (cutOf (c :: r)).err = 0
            · rw [if_pos h3, if_pos h3]
              have e := cut_ok h3
              have e1 := e.1.length_le
              have e2 := e.2
              have e3 : ((c :: r).drop (cutOf (c :: r)).text.length).length ≤ f := by rw [List.length_drop]; simp only [List.length_cons] at *; omega
              have e4 : ((c :: r).drop (cutOf (c :: r)).text.length).length ≤ g := by rw [List.length_drop]; simp only [List.length_cons] at *; omega
              rw [ih g _ _ e3 e4]
            · rw [if_neg h3, if_neg h3]

/-! ### The four ways, without fuel. -/
theorem scanL_nil (a : Nat) : scanL [] a = .fine [] := rfl
theorem scanL_blank {c : UInt8} (r : List UInt8) (a : Nat) (h : blkB c = true) : scanL (c :: r) a = scanL r (a + 1) := by
  show scanF (r.length + 1) (c :: r) a = _
  unfold scanF
  rw [if_pos h]; rfl
theorem scanL_rem {c : UInt8} (r : List UInt8) (a : Nat) (h : blkB c = false) (h2 : isRem (c :: r) = true) :
    scanL (c :: r) a = scanL ((c :: r).drop ((c :: r).takeWhile linB).length) (a + ((c :: r).takeWhile linB).length) := by
  show scanF (r.length + 1) (c :: r) a = _
  unfold scanF
  rw [if_neg (by rw [h]; simp), if_pos h2]
  have e1 := dropWhile_len linB (c :: r)
  have e2 := rem_len h2
  simp only [List.length_cons] at e1
  rw [← dropWhile_drop]
  exact scanF_fuel _ _ _ _ (by omega) (by omega)
theorem scanL_tok {c : UInt8} (r : List UInt8) (a : Nat) (h : blkB c = false) (h2 : isRem (c :: r) = false) (h3 : (cutOf (c :: r)).err = 0) :
    scanL (c :: r) a = (scanL ((c :: r).drop (cutOf (c :: r)).text.length) (a + (cutOf (c :: r)).text.length)).pre [⟨(cutOf (c :: r)).kind, (cutOf (c :: r)).text, (cutOf (c :: r)).n, a⟩] := by
  show scanF (r.length + 1) (c :: r) a = _
  unfold scanF
  rw [if_neg (by rw [h]; simp), if_neg (by rw [h2]; simp), if_pos h3]
  have e := cut_ok h3
  have e1 := e.1.length_le
  have e2 := e.2
  congr 1
  exact scanF_fuel _ _ _ _ (by rw [List.length_drop]; simp only [List.length_cons] at *; omega) (by omega)
theorem scanL_bad {c : UInt8} (r : List UInt8) (a : Nat) (h : blkB c = false) (h2 : isRem (c :: r) = false) (h3 : (cutOf (c :: r)).err ≠ 0) :
    scanL (c :: r) a = .fail (cutOf (c :: r)).err a := by
  show scanF (r.length + 1) (c :: r) a = _
  unfold scanF
  rw [if_neg (by rw [h]; simp), if_neg (by rw [h2]; simp), if_neg h3]
theorem pre_nil (f : Found) (h : f.err = 0 → f.pl = 0) (h2 : f.err ≠ 0 → f.toks = []) : f.pre [] = f := by
  unfold Found.pre
  obtain ⟨t, e, p⟩ := f
  by_cases he : e = 0
  · simp only at h he ⊢
    rw [if_pos he, h he, he]; rfl
  · simp only at h2 he ⊢
    rw [if_neg he, h2 he]
theorem pre_pre (l m : List Tok) (f : Found) : (f.pre m).pre l = f.pre (l ++ m) := by
  unfold Found.pre
  by_cases h : f.err = 0
  · simp [h]
  · simp [h]
theorem pre_fine (l m : List Tok) : (Found.fine m).pre l = .fine (l ++ m) := by simp [Found.pre, Found.fine]
theorem pre_fail (l : List Tok) (e : Int) (a : Nat) (h : e ≠ 0) : (Found.fail e a).pre l = .fail e a := by simp [Found.pre, Found.fail, h]

theorem cut_err_pos (l : List UInt8) : (cutOf l).err = 0 ∨ ((cutOf l).err ≠ 0) := by
  by_cases h : (cutOf l).err = 0
  · exact .inl h
  · exact .inr h

/-- An induction over what a scan does. -/
theorem scan_ind {P : List UInt8 → Nat → Prop} (h0 : ∀ a, P [] a) (h1 : ∀ c r a, blkB c = true → P r (a + 1) → P (c :: r) a)
    (h2 : ∀ c r a, blkB c = false → isRem (c :: r) = true → P ((c :: r).drop ((c :: r).takeWhile linB).length) (a + ((c :: r).takeWhile linB).length) → P (c :: r) a)
    (h3 : ∀ c r a, blkB c = false → isRem (c :: r) = false → (cutOf (c :: r)).err = 0 → P ((c :: r).drop (cutOf (c :: r)).text.length) (a + (cutOf (c :: r)).text.length) → P (c :: r) a)
    (h4 : ∀ c r a, blkB c = false → isRem (c :: r) = false → (cutOf (c :: r)).err ≠ 0 → P (c :: r) a) : ∀ l a, P l a := by
  have key : ∀ n (l : List UInt8) a, l.length ≤ n → P l a := by
    intro n
    induction n with
    | zero =>
      intro l a hl
      have : l = [] := List.length_eq_zero_iff.1 (by omega)
      subst this; exact h0 a
    | succ n ih =>
      intro l a hl
      cases l with
      | nil => exact h0 a
      | cons c r =>
        simp only [List.length_cons] at hl
        cases hb : blkB c with
        | true => exact h1 c r a hb (ih _ _ (by omega))
        | false =>
          cases hr : isRem (c :: r) with
          | true =>
            have e2 := rem_len hr
            exact h2 c r a hb hr (ih _ _ (by rw [List.length_drop]; simp only [List.length_cons]; omega))
          | false =>
            rcases cut_err_pos (c :: r) with he | he
            · have e := (cut_ok he).2
              exact h3 c r a hb hr he (ih _ _ (by rw [List.length_drop]; simp only [List.length_cons]; omega))
            · exact h4 c r a hb hr he
  exact fun l a => key l.length l a (Nat.le_refl _)

/-- What a scan finds is in order: no place beside no error, no tokens beside one. -/
theorem scanL_form (l : List UInt8) (a : Nat) : ((scanL l a).err = 0 → (scanL l a).pl = 0) ∧ ((scanL l a).err ≠ 0 → (scanL l a).toks = []) := by
  revert l a
  refine scan_ind (fun a => ?_) (fun c r a h ih => ?_) (fun c r a h h2 ih => ?_) (fun c r a h h2 h3 ih => ?_) (fun c r a h h2 h3 => ?_)
  · rw [scanL_nil]; exact ⟨fun _ => rfl, fun h => absurd rfl h⟩
  · rw [scanL_blank r a h]; exact ih
  · rw [scanL_rem r a h h2]; exact ih
  · rw [scanL_tok r a h h2 h3]
    unfold Found.pre
    by_cases he : (scanL ((c :: r).drop (cutOf (c :: r)).text.length) (a + (cutOf (c :: r)).text.length)).err = 0
    · rw [if_pos he]; exact ⟨fun _ => rfl, fun h => absurd rfl h⟩
    · rw [if_neg he]; exact ⟨fun h => absurd h he, fun _ => rfl⟩
  · rw [scanL_bad r a h h2 h3]; exact ⟨fun h => absurd h h3, fun _ => rfl⟩
end Go.Proofs.YtpeohfgadnfnpaaGreatDoor
/-
  DERIVED. Layer 2: what follows of tokens, with nothing of the program in it: places, blanks, joins, and what is shown.
-/
namespace Go.Proofs.YtpeohfgadnfnpaaGreatDoor

/-! ### A byte behind a text that belongs to no token. -/
theorem while_app (p : UInt8 → Bool) (d : UInt8) (hd : p d = false) (m x : List UInt8) : (m ++ d :: x).takeWhile p = m.takeWhile p := by
  induction m with
  | nil => simp [hd]
  | cons c m ih =>
    rw [List.cons_append, List.takeWhile_cons, List.takeWhile_cons, ih]
theorem while_while (p : UInt8 → Bool) (l : List UInt8) : (l.takeWhile p).takeWhile p = l.takeWhile p := by
  induction l with
  | nil => rfl
  | cons c l ih =>
    rw [List.takeWhile_cons]
    cases h : p c with
    | true => simp only [if_true]; rw [List.takeWhile_cons, if_pos h, ih]
    | false => rfl
theorem pre2_app {a b d : UInt8} (h : b ≠ d) (c : UInt8) (r x : List UInt8) : [a, b].isPrefixOf ((c :: r) ++ d :: x) = [a, b].isPrefixOf (c :: r) := by
  cases r with
  | nil => simp [List.isPrefixOf, h]
  | cons e r => simp [List.isPrefixOf]
/-- A blank byte. -/
def Gap (d : UInt8) : Prop := d = 10 ∨ d = 32
theorem gap_blk {d : UInt8} (h : Gap d) : blkB d = true ∧ wrdB d = false ∧ digB d = false ∧ letB d = false := by
  rcases h with rfl | rfl <;> decide
theorem sign_app {d : UInt8} (hd : Gap d) (c : UInt8) (r x : List UInt8) : signOf ((c :: r) ++ d :: x) = signOf (c :: r) := by
  unfold signOf signTab
  have h2 : ∀ a b : UInt8, b ≠ d → [a, b].isPrefixOf ((c :: r) ++ d :: x) = [a, b].isPrefixOf (c :: r) := fun a b h => pre2_app h c r x
  have h1 : ∀ a : UInt8, [a].isPrefixOf ((c :: r) ++ d :: x) = [a].isPrefixOf (c :: r) := fun a => by simp [List.isPrefixOf]
  have n61 : (61 : UInt8) ≠ d := by rcases hd with rfl | rfl <;> decide
  have n38 : (38 : UInt8) ≠ d := by rcases hd with rfl | rfl <;> decide
  have n124 : (124 : UInt8) ≠ d := by rcases hd with rfl | rfl <;> decide
  simp only [List.find?_cons, List.find?_nil, h1, h2 _ _ n61, h2 _ _ n38, h2 _ _ n124]
theorem rem_app {d : UInt8} (hd : Gap d) (c : UInt8) (r x : List UInt8) : isRem ((c :: r) ++ d :: x) = isRem (c :: r) := by
  unfold isRem
  exact pre2_app (by rcases hd with rfl | rfl <;> decide) c r x
theorem cut_app {d : UInt8} (hd : Gap d) (c : UInt8) (r x : List UInt8) : cutOf ((c :: r) ++ d :: x) = cutOf (c :: r) := by
  obtain ⟨_, g2, g3, _⟩ := gap_blk hd
  cases h1 : letB c with
  | true =>
    rw [cutOf_word r h1]
    show cutOf (c :: (r ++ d :: x)) = _
    rw [cutOf_word _ h1]
    unfold wordCut
    rw [show c :: (r ++ d :: x) = (c :: r) ++ d :: x from rfl, while_app wrdB d g2]
  | false =>
    cases h2 : digB c with
    | true =>
      rw [cutOf_num r h1 h2]
      show cutOf (c :: (r ++ d :: x)) = _
      rw [cutOf_num _ h1 h2]
      unfold numCut
      rw [show c :: (r ++ d :: x) = (c :: r) ++ d :: x from rfl, while_app digB d g3]
    | false =>
      rw [cutOf_sign r h1 h2]
      show cutOf (c :: (r ++ d :: x)) = _
      rw [cutOf_sign _ h1 h2]
      unfold signCut
      rw [show c :: (r ++ d :: x) = (c :: r) ++ d :: x from rfl, sign_app hd]

/-- Two texts with a line's end between. -/
theorem scan_join (x m : List UInt8) (a : Nat) : scanL (m ++ 10 :: x) a = if (scanL m a).err = 0 then (scanL x (a + m.length + 1)).pre (scanL m a).toks else scanL m a := by
  revert m a
  have hd : Gap 10 := .inl rfl
  refine scan_ind (fun a => ?_) (fun c r a h ih => ?_) (fun c r a h h2 ih => ?_) (fun c r a h h2 h3 ih => ?_) (fun c r a h h2 h3 => ?_)
  · rw [List.nil_append, scanL_blank x a (by decide), scanL_nil]
    show _ = if (0 : Int) = 0 then (scanL x (a + 0 + 1)).pre [] else _
    rw [if_pos rfl, pre_nil _ (scanL_form _ _).1 (scanL_form _ _).2]
  · rw [List.cons_append, scanL_blank _ a h, scanL_blank r a h, ih, List.length_cons, show a + 1 + r.length + 1 = a + (r.length + 1) + 1 from by omega]
  · have e1 : isRem (c :: (r ++ 10 :: x)) = true := by rw [show c :: (r ++ 10 :: x) = (c :: r) ++ 10 :: x from rfl, rem_app hd]; exact h2
    rw [List.cons_append, scanL_rem _ a h e1, scanL_rem r a h h2, show c :: (r ++ 10 :: x) = (c :: r) ++ 10 :: x from rfl, while_app linB 10 (by decide)]
    have hl : ((c :: r).takeWhile linB).length ≤ (c :: r).length := (List.takeWhile_sublist _).length_le
    generalize ((c :: r).takeWhile linB).length = n at *
    rw [List.drop_append_of_le_length hl, ih, List.length_drop, show a + n + ((c :: r).length - n) + 1 = a + (c :: r).length + 1 from by omega]
  · have e1 : isRem (c :: (r ++ 10 :: x)) = false := by rw [show c :: (r ++ 10 :: x) = (c :: r) ++ 10 :: x from rfl, rem_app hd]; exact h2
    have e2 : cutOf (c :: (r ++ 10 :: x)) = cutOf (c :: r) := by rw [show c :: (r ++ 10 :: x) = (c :: r) ++ 10 :: x from rfl, cut_app hd]
    rw [List.cons_append, scanL_tok _ a h e1 (by rw [e2]; exact h3), scanL_tok r a h h2 h3, e2]
    have hl : (cutOf (c :: r)).text.length ≤ (c :: r).length := (cut_ok h3).1.length_le
    generalize hcut : cutOf (c :: r) = q at *
    rw [show c :: (r ++ 10 :: x) = (c :: r) ++ 10 :: x from rfl, List.drop_append_of_le_length hl, ih, List.length_drop, show a + q.text.length + ((c :: r).length - q.text.length) + 1 = a + (c :: r).length + 1 from by omega]
    generalize scanL ((c :: r).drop q.text.length) (a + q.text.length) = f
    by_cases he : f.err = 0
    · have e3 : (f.pre [⟨q.kind, q.text, q.n, a⟩]) = ⟨[⟨q.kind, q.text, q.n, a⟩] ++ f.toks, 0, 0⟩ := by unfold Found.pre; rw [if_pos he]
      rw [if_pos he, e3, pre_pre]
      show _ = if (0 : Int) = 0 then _ else _
      rw [if_pos rfl]
    · have e3 : (f.pre [⟨q.kind, q.text, q.n, a⟩]) = ⟨[], f.err, f.pl⟩ := by unfold Found.pre; rw [if_neg he]
      rw [if_neg he, e3]
      show _ = if f.err = 0 then _ else _
      rw [if_neg he]
  · have e1 : isRem (c :: (r ++ 10 :: x)) = false := by rw [show c :: (r ++ 10 :: x) = (c :: r) ++ 10 :: x from rfl, rem_app hd]; exact h2
    have e2 : cutOf (c :: (r ++ 10 :: x)) = cutOf (c :: r) := by rw [show c :: (r ++ 10 :: x) = (c :: r) ++ 10 :: x from rfl, cut_app hd]
    rw [List.cons_append, scanL_bad _ a h e1 (by rw [e2]; exact h3), scanL_bad r a h h2 h3, e2]
    show _ = if (cutOf (c :: r)).err = 0 then _ else _
    rw [if_neg h3]

/-- All places further on. -/
def Tok.move (d : Nat) (t : Tok) : Tok := { t with pl := t.pl + d }
def Found.move (d : Nat) (f : Found) : Found := if f.err = 0 then ⟨f.toks.map (Tok.move d), 0, 0⟩ else ⟨[], f.err, f.pl + d⟩
theorem scan_move (d : Nat) (l : List UInt8) (a : Nat) : scanL l (a + d) = (scanL l a).move d := by
  revert l a
  refine scan_ind (fun a => ?_) (fun c r a h ih => ?_) (fun c r a h h2 ih => ?_) (fun c r a h h2 h3 ih => ?_) (fun c r a h h2 h3 => ?_)
  · rfl
  · rw [scanL_blank r a h, scanL_blank r _ h, ← ih, show a + d + 1 = a + 1 + d from by omega]
  · rw [scanL_rem r a h h2, scanL_rem r _ h h2, ← ih, show a + d + ((c :: r).takeWhile linB).length = a + ((c :: r).takeWhile linB).length + d from by omega]
  · rw [scanL_tok r a h h2 h3, scanL_tok r _ h h2 h3, show a + d + (cutOf (c :: r)).text.length = a + (cutOf (c :: r)).text.length + d from by omega, ih]
    generalize scanL ((c :: r).drop (cutOf (c :: r)).text.length) (a + (cutOf (c :: r)).text.length) = f
    by_cases he : f.err = 0
    · simp [Found.pre, Found.move, he, Tok.move]
    · simp [Found.pre, Found.move, he]
  · rw [scanL_bad r a h h2 h3, scanL_bad r _ h h2 h3]
    simp [Found.fail, Found.move, h3]

/-! ### Blanks and a remark ahead and behind. -/
theorem scan_blanks (p y : List UInt8) (a : Nat) (h : p.all blkB = true) : scanL (p ++ y) a = scanL y (a + p.length) := by
  induction p generalizing a with
  | nil => rfl
  | cons c p ih =>
    simp at h
    rw [List.cons_append, scanL_blank _ a h.1, ih _ (by simpa using h.2), List.length_cons, show a + 1 + p.length = a + (p.length + 1) from by omega]
theorem scan_remark (r z : List UInt8) (a : Nat) (hr : isRem r = true) (hl : r.all linB = true) : scanL (r ++ 10 :: z) a = scanL z (a + r.length + 1) := by
  cases r with
  | nil => exact absurd hr (by decide)
  | cons c r =>
    have hc : blkB c = false := by
      unfold isRem at hr
      simp [List.isPrefixOf] at hr
      rw [← hr.1]; decide
    have e : ((c :: r) ++ 10 :: z).takeWhile linB = c :: r := by
      rw [while_app linB 10 (by decide)]
      have := List.takeWhile_append_of_pos (l₁ := c :: r) (l₂ := []) (p := linB) (by simpa using hl)
      simpa using this
    have h1 := scanL_rem (c := c) (r ++ 10 :: z) a hc (by rw [show c :: (r ++ 10 :: z) = (c :: r) ++ 10 :: z from rfl, rem_app (.inl rfl)]; exact hr)
    rw [show c :: (r ++ 10 :: z) = (c :: r) ++ 10 :: z from rfl, e] at h1
    rw [h1, List.drop_left, scanL_blank z _ (by decide)]
theorem scan_padded (p r s : List UInt8) (hp : p.all blkB = true) (hr : isRem r = true) (hl : r.all linB = true) :
    scanL (p ++ (r ++ 10 :: (s ++ 10 :: p))) 0 = (scanL s 0).move (p.length + r.length + 1) := by
  rw [scan_blanks _ _ _ hp, scan_remark _ _ _ hr hl, scan_join]
  have e : scanL p (0 + p.length + r.length + 1 + s.length + 1) = .fine [] := by
    have := scan_blanks p [] (0 + p.length + r.length + 1 + s.length + 1) hp
    rw [List.append_nil] at this
    rw [this, scanL_nil]
  have hf := scanL_form s (0 + p.length + r.length + 1)
  have hm := scan_move (p.length + r.length + 1) s 0
  rw [show 0 + (p.length + r.length + 1) = 0 + p.length + r.length + 1 from by omega] at hm
  rw [e, ← hm]
  generalize scanL s (0 + p.length + r.length + 1) = f at *
  by_cases he : f.err = 0
  · rw [if_pos he, pre_fine, List.append_nil]
    obtain ⟨t, e, q⟩ := f
    simp only at he hf
    subst he
    rw [hf.1 rfl]; rfl
  · rw [if_neg he]

/-! ### Tokens by themselves. -/
def Good (t : Tok) : Prop := cutOf t.text = ⟨0, t.kind, t.text, t.n⟩ ∧ t.text ≠ []
theorem sign_self : ∀ t ∈ signTab, signOf t = some t := by decide
theorem sign_heads : ∀ t ∈ signTab, (match t with | [] => false | c :: _ => !letB c && !digB c && !blkB c) = true ∧ isRem t = false := by decide
theorem cut_self {m : List UInt8} (h : (cutOf m).err = 0) : cutOf (cutOf m).text = cutOf m := by
  cases m with
  | nil => exact absurd h (by decide)
  | cons c r =>
    cases h1 : letB c with
    | true =>
      rw [cutOf_word r h1] at *
      obtain ⟨hl, e⟩ := word_ok h
      rw [e]
      simp only
      have e1 := word_head r h1
      rw [e1, cutOf_word _ h1]
      have e2 : (c :: r.takeWhile wrdB).takeWhile wrdB = c :: r.takeWhile wrdB := by rw [← e1]; exact while_while _ _
      unfold wordCut
      rw [e2, if_neg (by rw [← e1]; omega)]
    | false =>
      cases h2 : digB c with
      | true =>
        rw [cutOf_num r h1 h2] at *
        obtain ⟨hl, e⟩ := num_ok h
        rw [e]
        simp only
        have e1 := num_head r h2
        rw [e1, cutOf_num _ h1 h2]
        have e2 : (c :: r.takeWhile digB).takeWhile digB = c :: r.takeWhile digB := by rw [← e1]; exact while_while _ _
        unfold numCut
        rw [e2, if_neg (by rw [← e1]; omega)]
      | false =>
        rw [cutOf_sign r h1 h2] at *
        obtain ⟨t, hs, e⟩ := sign_ok h
        rw [e]
        simp only
        have hm := (signOf_some hs).1
        have hh := (sign_heads t hm).1
        cases t with
        | nil => exact absurd hh (by decide)
        | cons d q =>
          simp at hh
          rw [cutOf_sign q hh.1.1 hh.1.2]
          unfold signCut
          rw [sign_self _ hm]
theorem good_of {m : List UInt8} {a : Nat} (h : (cutOf m).err = 0) : Good ⟨(cutOf m).kind, (cutOf m).text, (cutOf m).n, a⟩ := by
  refine ⟨?_, fun e => ?_⟩
  · have e := cut_self h
    simp only
    rw [e]
    generalize cutOf m = q at *
    obtain ⟨e, k, t, n⟩ := q
    simp only at h
    subst h; rfl
  · have := (cut_ok h).2
    simp only at e
    rw [e] at this
    simp at this
theorem scan_good (l : List UInt8) (a : Nat) : ∀ t ∈ (scanL l a).toks, Good t := by
  revert l a
  refine scan_ind (fun a => ?_) (fun c r a h ih => ?_) (fun c r a h h2 ih => ?_) (fun c r a h h2 h3 ih => ?_) (fun c r a h h2 h3 => ?_)
  · intro t ht; simp [scanL_nil, Found.fine] at ht
  · rw [scanL_blank r a h]; exact ih
  · rw [scanL_rem r a h h2]; exact ih
  · rw [scanL_tok r a h h2 h3]
    intro t ht
    unfold Found.pre at ht
    split at ht
    · simp at ht
      rcases ht with rfl | ht
      · exact good_of h3
      · exact ih t ht
    · simp at ht
  · intro t ht; simp [scanL_bad r a h h2 h3, Found.fail] at ht

/-- What is known of a good token's first byte. -/
theorem good_head {t : Tok} (h : Good t) : ∃ c r, t.text = c :: r ∧ blkB c = false ∧ ∀ x, (x = [] ∨ ∃ y, x = 32 :: y) → isRem (t.text ++ x) = false ∧ cutOf (t.text ++ x) = ⟨0, t.kind, t.text, t.n⟩ := by
  obtain ⟨hc, hn⟩ := h
  cases ht : t.text with
  | nil => exact absurd ht hn
  | cons c r =>
    rw [ht] at hc hn
    have herr : (cutOf (c :: r)).err = 0 := by rw [hc]
    have key : blkB c = false ∧ isRem (c :: r) = false := by
      cases h1 : letB c with
      | true =>
        have : blkB c = false ∧ c ≠ 47 := by
          have e : c.toNat = 95 ∨ (97 ≤ c.toNat ∧ c.toNat ≤ 122) := by unfold letB at h1; simp at h1; omega
          refine ⟨by unfold blkB; simp; omega, fun e2 => ?_⟩
          subst e2; simp at e
        refine ⟨this.1, ?_⟩
        unfold isRem
        simp [List.isPrefixOf]; exact fun e => absurd e.symm this.2
      | false =>
        cases h2 : digB c with
        | true =>
          have : blkB c = false ∧ c ≠ 47 := by
            have e : 48 ≤ c.toNat ∧ c.toNat ≤ 57 := by unfold digB at h2; simpa using h2
            refine ⟨by unfold blkB; simp; omega, fun e2 => ?_⟩
            subst e2; simp at e
          refine ⟨this.1, ?_⟩
          unfold isRem
          simp [List.isPrefixOf]; exact fun e => absurd e.symm this.2
        | false =>
          rw [cutOf_sign r h1 h2] at hc
          obtain ⟨t', hs, e⟩ := sign_ok (by rw [hc])
          rw [e] at hc
          have e2 : t' = c :: r := congrArg Cut.text hc
          subst e2
          have hm := (signOf_some hs).1
          have hh := sign_heads _ hm
          simp at hh
          exact ⟨hh.1.2, hh.2⟩
    refine ⟨c, r, rfl, key.1, fun x hx => ?_⟩
    rcases hx with rfl | ⟨y, rfl⟩
    · rw [List.append_nil]; exact ⟨key.2, hc⟩
    · rw [rem_app (.inr rfl), cut_app (.inr rfl)]; exact ⟨key.2, hc⟩
end Go.Proofs.YtpeohfgadnfnpaaGreatDoor
