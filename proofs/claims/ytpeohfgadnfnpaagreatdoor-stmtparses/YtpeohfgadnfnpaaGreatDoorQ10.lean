/-
  DERIVED. Layer 3: what is shown of an expression that is right is read as it was: nothing of the program in it.
-/
import Derived.Test.YtpeohfgadnfnpaaGreatDoorQ06
namespace Go.Proofs.YtpeohfgadnfnpaaGreatDoor
open Go

/-! ### Numerals. -/
theorem dec_small {u : Nat} (h : u < 10) : Lib.decDigits u = [UInt8.ofNat (48 + u)] := Lib.decDigits_one h
theorem dec_step {u : Nat} (h : ¬ u < 10) : Lib.decDigits u = Lib.decDigits (u / 10) ++ [UInt8.ofNat (48 + u % 10)] := by
  rw [Lib.decDigits, dif_neg h]
theorem dig_of {k : Nat} (h : k < 10) : digB (UInt8.ofNat (48 + k)) = true ∧ (UInt8.ofNat (48 + k)).toNat = 48 + k := by
  have e : (UInt8.ofNat (48 + k)).toNat = 48 + k := by simp; omega
  refine ⟨?_, e⟩
  unfold digB; rw [e]; simp; omega
theorem all_one {c : UInt8} (h : digB c = true) : [c].all digB = true := by rw [List.all_cons, h]; rfl
theorem dec_all (u : Nat) : (Lib.decDigits u).all digB = true ∧ valN (Lib.decDigits u) = u ∧ Lib.decDigits u ≠ [] := by
  induction u using Nat.strongRecOn with
  | _ u ih =>
    by_cases h : u < 10
    · rw [dec_small h]
      have k := dig_of h
      refine ⟨all_one k.1, ?_, by simp⟩
      show 0 * 10 + ((UInt8.ofNat (48 + u)).toNat - 48) = u
      rw [k.2]; omega
    · obtain ⟨i1, i2, i3⟩ := ih (u / 10) (by omega)
      have k := dig_of (k := u % 10) (by omega)
      rw [dec_step h]
      exact ⟨by rw [List.all_append, i1, all_one k.1]; rfl, by rw [valN_snoc, i2, k.2]; omega, by simp⟩

/-! ### One token ahead of what ends it. -/
/-- What can stand behind a token: nothing, a blank, a bracket, a comma, a semicolon. -/
def Stops (r : List UInt8) : Prop := r = [] ∨ (∃ y, r = 32 :: y) ∨ (∃ y, r = 41 :: y) ∨ (∃ y, r = 44 :: y) ∨ (∃ y, r = 59 :: y)
theorem stop_while {p : UInt8 → Bool} (h1 : p 32 = false) (h2 : p 41 = false) (h3 : p 44 = false) (h4 : p 59 = false) {r : List UInt8} (hr : Stops r) (m : List UInt8) (hm : m.all p = true) : (m ++ r).takeWhile p = m := by
  have e : m.takeWhile p = m := by
    have := List.takeWhile_append_of_pos (l₁ := m) (l₂ := []) (p := p) (by simpa using hm)
    simpa using this
  rcases hr with rfl | ⟨y, rfl⟩ | ⟨y, rfl⟩ | ⟨y, rfl⟩ | ⟨y, rfl⟩
  · rw [List.append_nil, e]
  · rw [while_app p 32 h1, e]
  · rw [while_app p 41 h2, e]
  · rw [while_app p 44 h3, e]
  · rw [while_app p 59 h4, e]
def Tok.bare (t : Tok) : Tok := { t with pl := 0 }
theorem scan_one {c : UInt8} {m r : List UInt8} {k n : Int} (a : Nat) (hb : blkB c = false) (h2 : isRem ((c :: m) ++ r) = false) (hc : cutOf ((c :: m) ++ r) = ⟨0, k, c :: m, n⟩) :
    scanL ((c :: m) ++ r) a = (scanL r (a + (c :: m).length)).pre [⟨k, c :: m, n, a⟩] := by
  rw [List.cons_append] at *
  rw [scanL_tok _ a hb h2 (by rw [hc]), hc]
  simp only
  rw [← List.cons_append, List.drop_left]
theorem rem_no {c : UInt8} (h : c ≠ 47) (r : List UInt8) : isRem (c :: r) = false := by
  unfold isRem; simp [List.isPrefixOf]; exact fun e => absurd e.symm h
theorem scan_name {l r : List UInt8} (a : Nat) (h : nameB l = true) (hr : Stops r) : scanL (l ++ r) a = (scanL r (a + l.length)).pre [⟨1, l, 0, a⟩] := by
  cases l with
  | nil => exact absurd h (by decide)
  | cons c m =>
    unfold nameB at h
    simp only [Bool.and_eq_true, decide_eq_true_eq] at h
    obtain ⟨⟨⟨⟨_, h1⟩, h2⟩, h3⟩, _⟩ := h
    have hc : letB c = true := by simpa using h2
    have hcc : c.toNat = 95 ∨ (97 ≤ c.toNat ∧ c.toNat ≤ 122) := by unfold letB at hc; simp at hc; omega
    have hb : blkB c = false := by unfold blkB; simp; omega
    refine scan_one a hb (rem_no (fun e => by subst e; simp at hcc) _) ?_
    rw [List.cons_append, cutOf_word _ hc, ← List.cons_append]
    unfold wordCut
    rw [stop_while (by decide) (by decide) (by decide) (by decide) hr (c :: m) h3, if_neg (by omega)]
theorem scan_num {u : Nat} {r : List UInt8} (a : Nat) (h : u ≤ 4294967296) (hr : Stops r) : scanL (Lib.decDigits u ++ r) a = (scanL r (a + (Lib.decDigits u).length)).pre [⟨2, Lib.decDigits u, u, a⟩] := by
  obtain ⟨h1, h2, h3⟩ := dec_all u
  generalize Lib.decDigits u = l at *
  cases l with
  | nil => exact absurd rfl h3
  | cons c m =>
    have hc : digB c = true := by simp at h1; exact h1.1
    have hcc : 48 ≤ c.toNat ∧ c.toNat ≤ 57 := by unfold digB at hc; simpa using hc
    have hb : blkB c = false := by unfold blkB; simp; omega
    have hl : letB c = false := by unfold letB; simp; omega
    refine scan_one a hb (rem_no (fun e => by subst e; simp at hcc) _) ?_
    rw [List.cons_append, cutOf_num _ hl hc, ← List.cons_append]
    unfold numCut
    rw [stop_while (by decide) (by decide) (by decide) (by decide) hr (c :: m) h1, h2, if_neg (by omega)]
/-- A sign of one byte, of those that stand ahead. -/
theorem scan_sign1 {c : UInt8} {r : List UInt8} (a : Nat) (hc : c = 40 ∨ c = 41 ∨ c = 45 ∨ (c = 33 ∧ r.head? ≠ some 61)) : scanL (c :: r) a = (scanL r (a + 1)).pre [⟨3, [c], 0, a⟩] := by
  have hcut : cutOf (c :: r) = ⟨0, 3, [c], 0⟩ := by
    have hl : letB c = false := by rcases hc with rfl | rfl | rfl | ⟨rfl, _⟩ <;> decide
    have hd : digB c = false := by rcases hc with rfl | rfl | rfl | ⟨rfl, _⟩ <;> decide
    rw [cutOf_sign r hl hd]
    unfold signCut
    have : signOf (c :: r) = some [c] := by
      unfold signOf signTab
      rcases hc with rfl | rfl | rfl | ⟨rfl, h⟩
      · simp [List.isPrefixOf]
      · simp [List.isPrefixOf]
      · simp [List.isPrefixOf]
      · cases r with
        | nil => simp [List.isPrefixOf]
        | cons b r =>
          have hb : (61 == b) = false := by
            rw [beq_eq_false_iff_ne]; intro e; exact h (by rw [← e]; rfl)
          simp [List.isPrefixOf, hb]
    rw [this]
  have hb : blkB c = false := by rcases hc with rfl | rfl | rfl | ⟨rfl, _⟩ <;> decide
  have h2 : isRem (c :: r) = false := rem_no (by rcases hc with rfl | rfl | rfl | ⟨rfl, _⟩ <;> decide) _
  have := scan_one (c := c) (m := []) (r := r) (k := 3) (n := 0) a hb h2 hcut
  exact this
/-- A sign of two operands, a blank behind it. -/
theorem bin_signs : ∀ op : Fin 16, takesN (op : Nat) = some 2 → (cutOf (signT op) = ⟨0, 3, signT op, 0⟩ ∧ isRem (signT op) = false ∧ (match signT op with | [] => false | c :: _ => !blkB c) = true) := by decide
theorem scan_sign2 {k : Nat} (hk : takesN (k : Int) = some 2) (r : List UInt8) (a : Nat) : scanL (signT k ++ 32 :: r) a = (scanL r (a + (signT k).length + 1)).pre [⟨3, signT k, 0, a⟩] := by
  have hop := takes_op hk
  obtain ⟨h1, h2, h3⟩ := bin_signs ⟨k, by omega⟩ hk
  simp only at h1 h2 h3
  generalize signT k = s at *
  cases s with
  | nil => exact absurd h3 (by decide)
  | cons c m =>
    have hb : blkB c = false := by simpa using h3
    rw [scan_one (k := 3) (n := 0) a hb (by rw [rem_app (.inr rfl)]; exact h2) (by rw [cut_app (.inr rfl)]; exact h1), scanL_blank _ _ (by decide)]

/-! ### The tokens of what is shown. -/
def signTok (k : Nat) : Tok := ⟨3, signT k, 0, 0⟩
def toksX (inner : Bool) : Ex → List Tok
  | .leaf a => if a.op = 1 then [⟨2, Lib.itoa a.n, a.n, 0⟩] else [⟨1, a.name, 0, 0⟩]
  | .un a x => signTok a.op.toNat :: toksX true x
  | .bin a x y => if inner = true then ⟨3, [40], 0, 0⟩ :: (toksX true x ++ signTok a.op.toNat :: toksX true y) ++ [⟨3, [41], 0, 0⟩] else toksX true x ++ signTok a.op.toNat :: toksX true y
def GoodX (x : Ex) : Prop := x.ok ∧ x.flat.all nodOK = true
theorem good_un {a : Nod} {x : Ex} (h : GoodX (.un a x)) : GoodX x := ⟨h.1.2, by have := h.2; simp only [Ex.flat, List.all_cons, Bool.and_eq_true] at this; exact this.2⟩
theorem good_bin {a : Nod} {x y : Ex} (h : GoodX (.bin a x y)) : GoodX x ∧ GoodX y := by
  have := h.2
  simp only [Ex.flat, List.all_cons, List.all_append, Bool.and_eq_true] at this
  exact ⟨⟨h.1.2.1, this.2.1⟩, ⟨h.1.2.2, this.2.2⟩⟩
theorem good_top {x : Ex} (h : GoodX x) : nodOK x.top = true := List.all_eq_true.1 h.2 _ (by rw [flat_kids]; simp)
theorem leaf_num {a : Nod} (h : nodOK a = true) (h1 : a.op = 1) : 0 ≤ a.n ∧ a.n ≤ 4294967296 ∧ a.name = [] := by
  unfold nodOK at h
  simp only [h1, if_true, Bool.and_eq_true, decide_eq_true_eq, List.isEmpty_iff] at h
  exact ⟨h.2.1.1, h.2.1.2, h.2.2⟩
theorem leaf_name {a : Nod} (h : nodOK a = true) (h2 : a.op = 2) : nameB a.name = true ∧ a.n = 0 := by
  unfold nodOK at h
  rw [if_neg (by omega), if_pos h2] at h
  simp only [Bool.and_eq_true, decide_eq_true_eq] at h
  exact ⟨h.2.2, h.2.1⟩
theorem sign_nod {a : Nod} (h : nodOK a = true) (h1 : a.op ≠ 1) (h2 : a.op ≠ 2) : a.n = 0 ∧ a.name = [] := by
  unfold nodOK at h
  rw [if_neg h1, if_neg h2] at h
  simp only [Bool.and_eq_true, decide_eq_true_eq, List.isEmpty_iff] at h
  exact ⟨h.2.1, h.2.2⟩
theorem leaf_op {a : Nod} (h : (Ex.leaf a).ok) : a.op = 1 ∨ a.op = 2 := by
  have h' : takesN a.op = some 0 := h
  unfold takesN at h'
  split at h'
  · assumption
  · split at h'
    · simp at h'
    · split at h' <;> simp at h'
theorem un_op {a : Nod} (h : takesN a.op = some 1) : a.op = 3 ∨ a.op = 4 := by
  unfold takesN at h
  split at h
  · simp at h
  · split at h
    · assumption
    · split at h <;> simp at h
/-- What is shown of an operand does not begin with =. -/
theorem show_head : ∀ (x : Ex), GoodX x → ∀ r, (showX true x ++ r).head? ≠ some 61 ∧ showX true x ≠ [] := by
  intro x
  induction x with
  | leaf a =>
    intro h r
    have hn : nodOK a = true := good_top h
    rcases leaf_op h.1 with h1 | h2
    · obtain ⟨b1, b2, _⟩ := leaf_num hn h1
      obtain ⟨u, hu⟩ : ∃ u : Nat, a.n = u := ⟨a.n.toNat, by omega⟩
      have e : showX true (.leaf a) = Lib.decDigits u := by simp only [showX, h1, if_true]; rw [hu, Lib.itoa_nonneg]
      rw [e]
      obtain ⟨d1, _, d3⟩ := dec_all u
      cases hd : Lib.decDigits u with
      | nil => exact absurd hd d3
      | cons c m =>
        rw [hd] at d1
        refine ⟨?_, by simp⟩
        simp only [List.cons_append, List.head?_cons]
        intro e2
        simp at e2 d1
        rw [e2] at d1
        exact absurd d1.1 (by decide)
    · have e : showX true (.leaf a) = a.name := by simp [showX, h2]
      rw [e]
      have hnm := (leaf_name hn h2).1
      cases hd : a.name with
      | nil => rw [hd] at hnm; exact absurd hnm (by decide)
      | cons c m =>
        rw [hd] at hnm
        refine ⟨?_, by simp⟩
        simp only [List.cons_append, List.head?_cons]
        intro e2
        simp at e2
        subst e2
        unfold nameB at hnm
        simp at hnm
        exact absurd hnm.1.1.2 (by decide)
  | un a x ih =>
    intro h r
    have e : showX true (.un a x) = signT a.op.toNat ++ showX true x := rfl
    rw [e]
    rcases un_op h.1.1 with h3 | h4
    · rw [h3]; exact ⟨by simp [signT, signsTab], by simp [signT, signsTab]⟩
    · rw [h4]; exact ⟨by simp [signT, signsTab], by simp [signT, signsTab]⟩
  | bin a x y ih1 ih2 =>
    intro h r
    simp [showX]
theorem pre_app (T S : List Tok) (f : Found) : (f.pre S).pre T = f.pre (T ++ S) := pre_pre T S f
theorem scan_shown : ∀ (x : Ex) (b : Bool) (r : List UInt8) (a : Nat), GoodX x → Stops r → ∃ T, T.map Tok.bare = toksX b x ∧ scanL (showX b x ++ r) a = (scanL r (a + (showX b x).length)).pre T := by
  intro x
  induction x with
  | leaf a =>
    intro b r p h hr
    have hn : nodOK a = true := good_top h
    rcases leaf_op h.1 with h1 | h2
    · obtain ⟨b1, b2, _⟩ := leaf_num hn h1
      obtain ⟨u, hu⟩ : ∃ u : Nat, a.n = u := ⟨a.n.toNat, by omega⟩
      have e : showX b (.leaf a) = Lib.decDigits u := by simp only [showX, h1, if_true]; rw [hu, Lib.itoa_nonneg]
      have e2 : toksX b (.leaf a) = [⟨2, Lib.decDigits u, u, 0⟩] := by simp only [toksX, h1, if_true]; rw [hu, Lib.itoa_nonneg]
      rw [e, e2]
      exact ⟨_, rfl, scan_num p (by omega) hr⟩
    · have e : showX b (.leaf a) = a.name := by simp [showX, h2]
      have e2 : toksX b (.leaf a) = [⟨1, a.name, 0, 0⟩] := by simp [toksX, h2]
      rw [e, e2]
      exact ⟨_, rfl, scan_name p (leaf_name hn h2).1 hr⟩
  | un a x ih =>
    intro b r p h hr
    have e : showX b (.un a x) = signT a.op.toNat ++ showX true x := rfl
    have e2 : toksX b (.un a x) = signTok a.op.toNat :: toksX true x := rfl
    have hh := (show_head x (good_un h) r).1
    obtain ⟨T, hT, hs⟩ := ih true r (p + 1) (good_un h) hr
    rw [e, e2]
    rcases un_op h.1.1 with h3 | h4
    · rw [h3]
      show ∃ T, _ ∧ scanL (45 :: (showX true x ++ r)) p = (scanL r (p + ((showX true x).length + 1))).pre T
      rw [scan_sign1 p (.inr (.inr (.inl rfl))), hs, pre_app, show p + 1 + (showX true x).length = p + ((showX true x).length + 1) from by omega]
      exact ⟨_, by rw [List.map_append, hT]; rfl, rfl⟩
    · rw [h4]
      show ∃ T, _ ∧ scanL (33 :: (showX true x ++ r)) p = (scanL r (p + ((showX true x).length + 1))).pre T
      rw [scan_sign1 p (.inr (.inr (.inr ⟨rfl, hh⟩))), hs, pre_app, show p + 1 + (showX true x).length = p + ((showX true x).length + 1) from by omega]
      exact ⟨_, by rw [List.map_append, hT]; rfl, rfl⟩
  | bin a x y ih1 ih2 =>
    intro b r p h hr
    obtain ⟨gx, gy⟩ := good_bin h
    have hop := takes_op h.1.1
    obtain ⟨k, hk⟩ : ∃ k : Nat, a.op = k := ⟨a.op.toNat, by omega⟩
    have hk2 : takesN (k : Int) = some 2 := by rw [← hk]; exact h.1.1
    have hkn : a.op.toNat = k := by omega
    have core : ∀ (r : List UInt8) (p : Nat), Stops r → ∃ T, T.map Tok.bare = toksX true x ++ signTok k :: toksX true y ∧ scanL ((showX true x ++ [32] ++ signT k ++ [32] ++ showX true y) ++ r) p = (scanL r (p + (showX true x ++ [32] ++ signT k ++ [32] ++ showX true y).length)).pre T := by
      intro r p hr
      obtain ⟨T1, hT1, hs1⟩ := ih1 true (32 :: (signT k ++ 32 :: (showX true y ++ r))) p gx (.inr (.inl ⟨_, rfl⟩))
      obtain ⟨T2, hT2, hs2⟩ := ih2 true r (p + (showX true x).length + 1 + (signT k).length + 1) gy hr
      have e : (showX true x ++ [32] ++ signT k ++ [32] ++ showX true y) ++ r = showX true x ++ (32 :: (signT k ++ 32 :: (showX true y ++ r))) := by simp
      rw [e, hs1, scanL_blank _ _ (by decide), scan_sign2 hk2, hs2, pre_app, pre_app]
      refine ⟨T1 ++ [⟨3, signT k, 0, p + (showX true x).length + 1⟩] ++ T2, by rw [List.map_append, List.map_append, hT1, hT2, List.append_assoc]; rfl, ?_⟩
      congr 2
      simp only [List.length_append, List.length_cons, List.length_nil]; omega
    cases b with
    | false =>
      have e : showX false (.bin a x y) = showX true x ++ [32] ++ signT k ++ [32] ++ showX true y := by simp [showX, hkn]
      have e2 : toksX false (.bin a x y) = toksX true x ++ signTok k :: toksX true y := by simp [toksX, hkn]
      rw [e, e2]
      exact core r p hr
    | true =>
      have e : showX true (.bin a x y) = 40 :: ((showX true x ++ [32] ++ signT k ++ [32] ++ showX true y) ++ [41]) := by simp [showX, hkn]
      have e2 : toksX true (.bin a x y) = ⟨3, [40], 0, 0⟩ :: ((toksX true x ++ signTok k :: toksX true y) ++ [⟨3, [41], 0, 0⟩]) := by simp [toksX, hkn]
      rw [e, e2]
      obtain ⟨T, hT, hs⟩ := core (41 :: r) (p + 1) (.inr (.inr (.inl ⟨_, rfl⟩)))
      generalize showX true x ++ [32] ++ signT k ++ [32] ++ showX true y = m at *
      rw [show (40 :: (m ++ [41])) ++ r = 40 :: (m ++ 41 :: r) from by simp, scan_sign1 p (.inl rfl), hs, scan_sign1 _ (.inr (.inl rfl)), pre_app, pre_app]
      refine ⟨[⟨3, [40], 0, p⟩] ++ T ++ [⟨3, [41], 0, p + 1 + m.length⟩], by rw [List.map_append, List.map_append, hT, List.append_assoc]; rfl, ?_⟩
      congr 2
      simp only [List.length_append, List.length_cons, List.length_nil]; omega

/-! ### What is shown is read. -/
def bareN (a : Nod) : Nod := { a with pl := 0 }
def bareX : Ex → Ex
  | .leaf a => .leaf (bareN a)
  | .un a x => .un (bareN a) (bareX x)
  | .bin a x y => .bin (bareN a) (bareX x) (bareX y)
/-- The tokens from a place on, but for places. -/
def From (L : List Tok) (i : Nat) (T : List Tok) : Prop := (L.map Tok.bare).drop i = T
theorem From.head {L : List Tok} {i : Nat} {t : Tok} {T : List Tok} (h : From L i (t :: T)) : ∃ t', L[i]? = some t' ∧ t'.bare = t ∧ From L (i + 1) T := by
  unfold From at *
  have h1 : (L.map Tok.bare)[i]? = some t := by
    have := congrArg (fun l => l[0]?) h
    simpa using this
  rw [List.getElem?_map] at h1
  cases hL : L[i]? with
  | none => rw [hL] at h1; cases h1
  | some t' =>
    rw [hL] at h1
    refine ⟨t', rfl, by simpa using h1, ?_⟩
    rw [← List.drop_drop, h]; rfl
theorem From.app {L : List Tok} {i : Nat} {S T : List Tok} (h : From L i (S ++ T)) : From L (i + S.length) T := by
  unfold From at *
  rw [← List.drop_drop, h, List.drop_left]
theorem From.none {L : List Tok} {i : Nat} (h : From L i []) : L.length ≤ i := by
  unfold From at h
  have := congrArg List.length h
  simp at this; omega
theorem is_from {L : List Tok} {i : Nat} {t : Tok} {T : List Tok} (h : From L i (t :: T)) (s : List UInt8) : isB L i s = ((t.kind == 1 || t.kind == 3) && t.text == s) := by
  obtain ⟨t', h1, h2, _⟩ := h.head
  subst h2
  unfold isB
  rw [Int.toNat_natCast, h1]
  simp [Tok.bare]
theorem is_none {L : List Tok} {i : Nat} (h : From L i []) (s : List UInt8) : isB L i s = false := by
  cases hb : isB L i s with
  | false => rfl
  | true => have := isB_lt hb; have := h.none; omega
theorem sign_zero {L : List Tok} {b i : Nat} (h : ∀ op, op < 16 → bindT op = b → isB L i (signT op) = false) : signAt L b i = 0 := by
  cases hs : (decide (signAt L b i = 0)) with
  | true => simpa using hs
  | false =>
    have hne : signAt L b i ≠ 0 := by simpa using hs
    obtain ⟨h1, h2, h3⟩ := signAt_spec hne
    rw [h _ h1 h2] at h3; cases h3
/-- What is no sign. -/
theorem no_sign_num {L : List Tok} {i b : Nat} {t : Tok} {T : List Tok} (h : From L i (t :: T)) (hk : t.kind = 2) : signAt L b i = 0 := sign_zero fun _ _ _ => by rw [is_from h, hk]; rfl
theorem name_first {l : List UInt8} (h : nameB l = true) : ∃ c m, l = c :: m ∧ letB c = true := by
  cases l with
  | nil => exact absurd h (by decide)
  | cons c m =>
    unfold nameB at h
    simp at h
    exact ⟨c, m, rfl, h.1.1.2⟩
theorem sign_first : ∀ op : Fin 16, (match signT op with | [] => true | c :: _ => !letB c) = true := by decide
theorem name_no_sign {l : List UInt8} (h : nameB l = true) (op : Nat) (ho : op < 16) : (l == signT op) = false := by
  obtain ⟨c, m, rfl, hc⟩ := name_first h
  have := sign_first ⟨op, ho⟩
  rw [beq_eq_false_iff_ne]
  intro e
  simp only [← e] at this
  rw [hc] at this; cases this
theorem no_sign_name {L : List Tok} {i b : Nat} {t : Tok} {T : List Tok} (h : From L i (t :: T)) (hn : nameB t.text = true) : signAt L b i = 0 :=
  sign_zero fun op ho _ => by rw [is_from h, name_no_sign hn op ho, Bool.and_false]
theorem no_sign_end {L : List Tok} {i b : Nat} (h : From L i []) : signAt L b i = 0 := sign_zero fun _ _ _ => is_none h _
theorem close_no : ∀ op : Fin 16, (([41] : List UInt8) == signT op) = false := by decide
theorem no_sign_close {L : List Tok} {i b : Nat} {T : List Tok} (h : From L i (⟨3, [41], 0, 0⟩ :: T)) : signAt L b i = 0 :=
  sign_zero fun op ho _ => by rw [is_from h, close_no ⟨op, ho⟩, Bool.and_false]
/-- A sign of two operands tells how much it binds. -/
theorem sign_find : ∀ (k : Fin 16) (b : Fin 7), takesN (k : Nat) = some 2 → 1 ≤ b.1 → b.1 ≤ 5 → ((List.range 16).find? (fun op => bindT op == (b.1 : Int) && ((((3 : Int) == 1) || ((3 : Int) == 3)) && signT k == signT op))).getD 0 = if bindT k = (b.1 : Int) then (k : Nat) else 0 := by decide +kernel
theorem sign_at_two {L : List Tok} {i b k : Nat} {T : List Tok} (h : From L i (signTok k :: T)) (hk : takesN (k : Int) = some 2) (hb : 1 ≤ b) (hb2 : b ≤ 5) : signAt L b i = if bindT k = (b : Int) then k else 0 := by
  have hop := takes_op hk
  have := sign_find ⟨k, by omega⟩ ⟨b, by omega⟩ hk hb hb2
  unfold signAt
  rw [← this]
  congr 2
  funext op
  rw [is_from h]; rfl
theorem sign_at_one {L : List Tok} {i k : Nat} {T : List Tok} (h : From L i (signTok k :: T)) (hk : k = 3 ∨ k = 4) : signAt L 6 i = k ∧ isB L i [40] = false := by
  refine ⟨?_, by rw [is_from h]; rcases hk with rfl | rfl <;> decide⟩
  have e : (fun op => bindT op == ((6 : Nat) : Int) && isB L i (signT op)) = fun op => bindT op == ((6 : Nat) : Int) && ((((3 : Int) == 1) || ((3 : Int) == 3)) && signT k == signT op) := by
    funext op; rw [is_from h]; rfl
  unfold signAt
  rw [e]
  rcases hk with rfl | rfl <;> decide +kernel
theorem toks_pos (x : Ex) (b : Bool) : 1 ≤ (toksX b x).length := by
  cases x with
  | leaf a => simp only [toksX]; split <;> simp
  | un a x => simp [toksX]
  | bin a x y => simp only [toksX]; split <;> simp <;> omega
theorem chain_lift {L : List Tok} {f i d to : Nat} {x : Ex} (h : singleF L f i d = some (.ok x to)) : ∀ (n b : Nat), b + n = 6 → 1 ≤ b → (∀ c, b ≤ c → c ≤ 5 → signAt L c to = 0) → ∃ f', chainF L f' b i d = some (.ok x to) := by
  intro n
  induction n with
  | zero =>
    intro b hb _ _
    obtain rfl : b = 6 := by omega
    exact ⟨f + 1, by rw [chainF, if_pos rfl]; exact h⟩
  | succ n ih =>
    intro b hb h1 hs
    obtain ⟨f', hf'⟩ := ih (b + 1) (by omega) (by omega) (fun c hc hc2 => hs c (by omega) hc2)
    cases f' with
    | zero => simp [chainF] at hf'
    | succ f' => exact ⟨f' + 1 + 1, by rw [chainF, if_neg (by omega), hf']; simp only; rw [loopF, if_pos (hs b (Nat.le_refl _) (by omega))]⟩
theorem chain_up {L : List Tok} {f i d to b : Nat} {x : Ex} (h : chainF L f (b + 1) i d = some (.ok x to)) (hb : b ≤ 5) (hs : signAt L b to = 0) : ∃ f', chainF L f' b i d = some (.ok x to) := by
  cases f with
  | zero => simp [chainF] at h
  | succ f => exact ⟨f + 1 + 1, by rw [chainF, if_neg (by omega), h]; simp only; rw [loopF, if_pos hs]⟩
theorem chain_down {L : List Tok} {f i d to : Nat} {x : Ex} : ∀ (n b : Nat), chainF L f (b + n) i d = some (.ok x to) → b + n ≤ 6 → (∀ c, c ≤ 5 → signAt L c to = 0) → ∃ f', chainF L f' b i d = some (.ok x to) := by
  intro n
  induction n generalizing f with
  | zero => intro b h _ _; exact ⟨f, h⟩
  | succ n ih =>
    intro b h hb hs
    obtain ⟨f', hf'⟩ := chain_up (b := b + n) h (by omega) (hs _ (by omega))
    exact ih b hf' (by omega) hs

theorem single_of_paren {L : List Tok} {f i d to : Nat} {x : Ex} (h1 : isB L i [40] = true) (hd : d ≠ 12) (h : chainF L f 1 (i + 1) (d + 1) = some (.ok x to)) (h2 : isB L to [41] = true) : singleF L (f + 1) i d = some (.ok x (to + 1)) := by
  rw [singleF, if_pos h1, if_neg hd, h]; simp only; rw [if_pos h2]
theorem bind_range : ∀ k : Fin 16, takesN (k : Nat) = some 2 → ∃ b : Fin 6, 1 ≤ b.1 ∧ bindT k = (b.1 : Int) := by decide
/-- Two operands and the sign between them. -/
theorem bin_read {L : List Tok} {i d k t1 t2 : Nat} {x y : Ex} {f g : Nat} (hk : takesN (k : Int) = some 2) {T : List Tok} (h1 : singleF L f i d = some (.ok x t1)) (hs : From L t1 (signTok k :: T)) (h2 : singleF L g (t1 + 1) d = some (.ok y t2)) (hn : ∀ c, c ≤ 5 → signAt L c t2 = 0) :
    ∃ f', chainF L f' 1 i d = some (.ok (.bin ⟨k, 0, [], plAt L t1⟩ x y) t2) := by
  have hop := takes_op hk
  obtain ⟨b, hb1, hb⟩ := bind_range ⟨k, by omega⟩ hk
  have hb5 : b.1 ≤ 5 := by omega
  simp only at hb
  obtain ⟨f1, hf1⟩ := chain_lift h1 (5 - b.1) (b.1 + 1) (by omega) (by omega) (fun c hc hc2 => by
    rw [sign_at_two hs hk (by omega) hc2, if_neg]
    intro e; rw [hb] at e; omega)
  obtain ⟨f2, hf2⟩ := chain_lift h2 (5 - b.1) (b.1 + 1) (by omega) (by omega) (fun c _ hc2 => hn c hc2)
  have hsg : signAt L b.1 t1 = k := by rw [sign_at_two hs hk hb1 hb5, if_pos hb]
  have hsn : signN L b.1 t1 = ⟨k, 0, [], plAt L t1⟩ := by unfold signN; rw [hsg]
  have hk0 : signAt L b.1 t1 ≠ 0 := by rw [hsg]; omega
  have hl : ∃ m, loopF L m b.1 x t1 d = some (.ok (.bin ⟨k, 0, [], plAt L t1⟩ x y) t2) := by
    cases f2 with
    | zero => simp [chainF] at hf2
    | succ f2 =>
      refine ⟨f2 + 1 + 1, ?_⟩
      rw [loopF, if_neg hk0, hf2]
      simp only
      rw [hsn]
      split
      · rfl
      · rw [loopF, if_pos (hn _ hb5)]
  obtain ⟨m, hm⟩ := hl
  have hchain : ∃ f', chainF L f' b.1 i d = some (.ok (.bin ⟨k, 0, [], plAt L t1⟩ x y) t2) := by
    refine ⟨max f1 m + 1, ?_⟩
    rw [chainF, if_neg (by omega), chain_mono (Nat.le_max_left f1 m) hf1]
    simp only
    have : ∀ g, m ≤ g → loopF L g b.1 x t1 d = some (.ok (.bin ⟨k, 0, [], plAt L t1⟩ x y) t2) := by
      intro g hg
      induction g with
      | zero =>
        obtain rfl : m = 0 := by omega
        exact hm
      | succ g ih =>
        by_cases e : m = g + 1
        · subst e; exact hm
        · exact (mono_one L g).2.1 _ _ _ _ _ (ih (by omega))
    exact this _ (Nat.le_max_right f1 m)
  obtain ⟨f', hf'⟩ := hchain
  exact chain_down (b.1 - 1) 1 (by rw [show 1 + (b.1 - 1) = b.1 from by omega]; exact hf') (by omega) hn
theorem bare_sign {a : Nod} {k : Nat} (hk : a.op = k) (h : a.n = 0 ∧ a.name = []) (q : Int) : bareN ⟨k, 0, [], q⟩ = bareN a := by
  obtain ⟨op, n, name, pl⟩ := a
  simp only at hk h
  obtain ⟨rfl, rfl⟩ := h
  subst hk; rfl
/-- THE HEART: an operand that is shown is read. -/
theorem single_shown : ∀ (x : Ex) (L : List Tok) (i d : Nat) (R : List Tok), GoodX x → From L i (toksX true x ++ R) → d + x.deep ≤ 13 → ∃ x' f, bareX x' = bareX x ∧ singleF L f i d = some (.ok x' (i + (toksX true x).length)) := by
  intro x
  induction x with
  | leaf a =>
    intro L i d R h hF hd
    have hn : nodOK a = true := good_top h
    rcases leaf_op h.1 with h1 | h2
    · obtain ⟨b1, b2, b3⟩ := leaf_num hn h1
      have e : toksX true (.leaf a) = [⟨2, Lib.itoa a.n, a.n, 0⟩] := by simp [toksX, h1]
      rw [e] at hF ⊢
      obtain ⟨t', g1, g2, _⟩ := From.head hF
      refine ⟨.leaf ⟨1, a.n, [], t'.pl⟩, 1, ?_, ?_⟩
      · obtain ⟨op, n, name, pl⟩ := a
        simp only at h1 b3; subst h1; subst b3; rfl
      · rw [singleF, if_neg (by rw [is_from hF]; simp), if_pos (no_sign_num hF rfl)]
        have hk : t'.kind = 2 := by have := congrArg Tok.kind g2; exact this
        have hv : t'.n = a.n := by have := congrArg Tok.n g2; exact this
        unfold leafR
        rw [g1]
        simp only
        rw [if_pos hk, hv]; rfl
    · obtain ⟨b1, b2⟩ := leaf_name hn h2
      have e : toksX true (.leaf a) = [⟨1, a.name, 0, 0⟩] := by simp [toksX, h2]
      rw [e] at hF ⊢
      obtain ⟨t', g1, g2, _⟩ := From.head hF
      refine ⟨.leaf ⟨2, 0, a.name, t'.pl⟩, 1, ?_, ?_⟩
      · obtain ⟨op, n, name, pl⟩ := a
        simp only at h2 b2; subst h2; subst b2; rfl
      · have h40 : (a.name == [40]) = false := by
          obtain ⟨c, m, hc, hl⟩ := name_first b1
          rw [beq_eq_false_iff_ne, hc]
          intro e2
          simp at e2
          rw [e2.1] at hl; exact absurd hl (by decide)
        rw [singleF, if_neg (by rw [is_from hF]; simp only; rw [h40]; simp), if_pos (no_sign_name hF b1)]
        have hk : t'.kind = 1 := by have := congrArg Tok.kind g2; exact this
        have hv : t'.text = a.name := by have := congrArg Tok.text g2; exact this
        unfold leafR
        rw [g1]
        simp only
        rw [if_neg (by omega), if_pos ⟨hk, by rw [hv]; exact b1⟩, hv]; rfl
  | un a x ih =>
    intro L i d R h hF hd
    have hn : nodOK a = true := good_top h
    have h34 := un_op h.1.1
    obtain ⟨k, hk⟩ : ∃ k : Nat, a.op = k := ⟨a.op.toNat, by omega⟩
    have hkn : a.op.toNat = k := by omega
    have e : toksX true (.un a x) = signTok k :: toksX true x := by simp [toksX, hkn]
    rw [e, List.cons_append] at hF
    obtain ⟨g1, g2⟩ := sign_at_one hF (by omega)
    obtain ⟨t', _, _, hF2⟩ := From.head hF
    simp only [Ex.deep] at hd
    obtain ⟨x', f, hx', hf⟩ := ih L (i + 1) (d + 1) R (good_un h) hF2 (by omega)
    have hp := deep_pos x
    refine ⟨.un ⟨k, 0, [], plAt L i⟩ x', f + 1, ?_, ?_⟩
    · simp only [bareX]
      rw [hx', bare_sign hk (sign_nod hn (by omega) (by omega))]
    · rw [singleF, if_neg (by rw [g2]; simp), if_neg (by rw [g1]; omega), if_neg (by omega), hf]
      simp only
      unfold signN
      rw [g1, e, List.length_cons, show i + 1 + (toksX true x).length = i + ((toksX true x).length + 1) from by omega]
  | bin a x y ih1 ih2 =>
    intro L i d R h hF hd
    have hn : nodOK a = true := good_top h
    obtain ⟨gx, gy⟩ := good_bin h
    have hop := takes_op h.1.1
    obtain ⟨k, hk⟩ : ∃ k : Nat, a.op = k := ⟨a.op.toNat, by omega⟩
    have hk2 : takesN (k : Int) = some 2 := by rw [← hk]; exact h.1.1
    have hkn : a.op.toNat = k := by omega
    have e : toksX true (.bin a x y) = ⟨3, [40], 0, 0⟩ :: (toksX true x ++ signTok k :: toksX true y) ++ [⟨3, [41], 0, 0⟩] := by simp [toksX, hkn]
    have hF' : From L i (⟨3, [40], 0, 0⟩ :: (toksX true x ++ (signTok k :: (toksX true y ++ (⟨3, [41], 0, 0⟩ :: R))))) := by rw [e] at hF; simpa using hF
    have ho : isB L i [40] = true := by rw [is_from hF']; rfl
    obtain ⟨t', _, _, hF1⟩ := From.head hF'
    simp only [Ex.deep] at hd
    have hp := deep_pos x
    obtain ⟨x', f, hx', hf⟩ := ih1 L (i + 1) (d + 1) _ gx hF1 (by omega)
    have hF2 := hF1.app
    obtain ⟨t2, _, _, hF3⟩ := From.head hF2
    obtain ⟨y', g, hy', hg⟩ := ih2 L (i + 1 + (toksX true x).length + 1) (d + 1) _ gy hF3 (by omega)
    have hF4 := hF3.app
    obtain ⟨f', hf'⟩ := bin_read hk2 hf hF2 hg (fun c _ => no_sign_close hF4)
    refine ⟨.bin ⟨k, 0, [], plAt L (i + 1 + (toksX true x).length)⟩ x' y', f' + 1, ?_, ?_⟩
    · simp only [bareX]
      rw [hx', hy', bare_sign hk (sign_nod hn (by
        intro e1; rw [e1] at hk; have : k = 1 := by omega
        subst this; exact absurd hk2 (by decide)) (by
        intro e1; rw [e1] at hk; have : k = 2 := by omega
        subst this; exact absurd hk2 (by decide)))]
    · rw [single_of_paren ho (by omega) hf' (by rw [is_from hF4]; rfl), e]
      congr 2
      simp only [List.length_append, List.length_cons, List.length_nil]; omega
end Go.Proofs.YtpeohfgadnfnpaaGreatDoor
