/-
  DERIVED. Layer 2: what is shown of tokens is read again; names; places.
-/
import Derived.Test.YtgecocpcbfccgaaDoorPure
import Derived.Test.YtgecocpcbfccgaaDoorText
namespace Go.Proofs.YtgecocpcbfccgaaDoor

theorem showL_cons (t : Tok) (L : List Tok) : showL (t :: L) = if L = [] then t.text else t.text ++ 32 :: showL L := by
  unfold showL
  cases L with
  | nil => simp [Lib.join_one]
  | cons b L =>
    rw [if_neg (by simp), List.map_cons, Lib.join_cons, List.map_cons, Lib.join_cons]
    unfold Lib.joinTail
    simp
theorem same_texts : ∀ {L M : List Tok}, sameB false L M = true → L.map (·.text) = M.map (·.text)
  | [], [], _ => rfl
  | [], b :: m, h => by simp [sameB] at h
  | a :: l, [], h => by simp [sameB] at h
  | a :: l, b :: m, h => by
    unfold sameB at h
    rw [Bool.and_eq_true] at h
    have ih := same_texts h.2
    have h1 := h.1
    unfold tokEq at h1
    simp at h1
    rw [List.map_cons, List.map_cons, ih, h1.1.2]
theorem same_show {L M : List Tok} (h : sameB false L M = true) : showL M = showL L := by
  unfold showL; rw [same_texts h]
/-- THE HEART: tokens that are shown are read again, but for places. -/
theorem scan_show : ∀ (L : List Tok) (a : Nat), (∀ t ∈ L, Good t) → (scanL (showL L) a).err = 0 ∧ sameB false L (scanL (showL L) a).toks = true
  | [], a, _ => by rw [showL_nil, scanL_nil]; exact ⟨rfl, rfl⟩
  | t :: L, a, h => by
    obtain ⟨c, r, ht, hb, hx⟩ := good_head (h t (by simp))
    have hL : ∀ t ∈ L, Good t := fun x hx => h x (by simp [hx])
    by_cases h0 : L = []
    · subst h0
      rw [showL_cons, if_pos rfl]
      obtain ⟨h1, h2⟩ := hx [] (.inl rfl)
      rw [List.append_nil] at h1 h2
      have e : scanL t.text a = .fine [⟨t.kind, t.text, t.n, a⟩] := by
        rw [ht] at h1 h2 ⊢
        rw [scanL_tok r a hb h1 (by rw [h2]), h2]
        simp only
        rw [List.drop_length, scanL_nil, pre_fine]; rfl
      rw [e]
      refine ⟨rfl, ?_⟩
      simp [Found.fine, sameB, tokEq]
    · rw [showL_cons, if_neg h0]
      obtain ⟨h1, h2⟩ := hx (32 :: showL L) (.inr ⟨_, rfl⟩)
      obtain ⟨i1, i2⟩ := scan_show L (a + t.text.length + 1) hL
      have e : scanL (t.text ++ 32 :: showL L) a = (scanL (showL L) (a + t.text.length + 1)).pre [⟨t.kind, t.text, t.n, a⟩] := by
        rw [ht] at h1 h2 ⊢
        rw [List.cons_append] at h1 h2 ⊢
        rw [scanL_tok _ a hb h1 (by rw [h2]), h2]
        simp only
        rw [← List.cons_append, List.drop_left, scanL_blank _ _ (by decide)]
      rw [e]
      generalize scanL (showL L) (a + t.text.length + 1) = f at *
      have e2 : f.pre [⟨t.kind, t.text, t.n, a⟩] = ⟨⟨t.kind, t.text, t.n, a⟩ :: f.toks, 0, 0⟩ := by unfold Found.pre; rw [if_pos i1]; rfl
      rw [e2]
      refine ⟨rfl, ?_⟩
      simp [sameB, tokEq, i2]

/-! ### How long what is shown can be. -/
def lenT (L : List Tok) : Nat := (L.map (fun t => t.text.length)).sum
theorem scan_len (l : List UInt8) (a : Nat) : lenT (scanL l a).toks ≤ l.length ∧ (scanL l a).toks.length ≤ lenT (scanL l a).toks := by
  revert l a
  refine scan_ind (fun a => ?_) (fun c r a h ih => ?_) (fun c r a h h2 ih => ?_) (fun c r a h h2 h3 ih => ?_) (fun c r a h h2 h3 => ?_)
  · rw [scanL_nil]; exact ⟨Nat.le_refl _, Nat.le_refl _⟩
  · rw [scanL_blank r a h]; simp only [List.length_cons]; omega
  · rw [scanL_rem r a h h2]; rw [List.length_drop] at ih; omega
  · rw [scanL_tok r a h h2 h3]
    have e := cut_ok h3
    have e1 := e.1.length_le
    rw [List.length_drop] at ih
    unfold Found.pre
    by_cases he : (scanL ((c :: r).drop (cutOf (c :: r)).text.length) (a + (cutOf (c :: r)).text.length)).err = 0
    · rw [if_pos he]
      have h4 := e.2
      simp only [lenT, List.cons_append, List.nil_append, List.map_cons, List.sum_cons, List.length_cons] at *
      omega
    · rw [if_neg he]; exact ⟨Nat.zero_le _, Nat.le_refl _⟩
  · rw [scanL_bad r a h h2 h3]; exact ⟨Nat.zero_le _, Nat.le_refl _⟩
theorem show_len (L : List Tok) : (showL L).length ≤ lenT L + L.length := by
  induction L with
  | nil => exact Nat.le_refl _
  | cons t L ih =>
    rw [showL_cons]
    split
    · simp only [lenT, List.map_cons, List.sum_cons, List.length_cons]; omega
    · simp only [lenT, List.map_cons, List.sum_cons, List.length_cons, List.length_append] at *; omega

/-! ### Names. -/
def oneB (l : List UInt8) (f : Found) : Bool := f.err == 0 && decide (f.toks.length = 1) && (f.toks.head?).any (fun t => t.kind == 1 && t.text == l)
def wordB (l : List UInt8) : Bool := !l.isEmpty && decide (l.length ≤ 16) && l.head?.any letB && l.all wrdB
theorem kept_word : ∀ t ∈ keptTab, wordB t = true := by decide
theorem kept_mem {l : List UInt8} (h : keptB l = true) : l ∈ keptTab := by
  unfold keptB at h
  rw [List.any_eq_true] at h
  obtain ⟨t, ht, e⟩ := h
  simp at e; subst e; exact ht
theorem name_or_kept (l : List UInt8) : (nameB l || keptB l) = wordB l := by
  cases hk : keptB l with
  | true => rw [Bool.or_true, kept_word l (kept_mem hk)]
  | false => unfold nameB wordB; rw [hk]; simp
theorem name_not_kept (l : List UInt8) : (nameB l && keptB l) = false := by
  unfold nameB
  cases keptB l <;> simp
theorem word_one {l : List UInt8} (h : wordB l = true) : scanL l 0 = .fine [⟨1, l, 0, 0⟩] := by
  cases l with
  | nil => exact absurd h (by decide)
  | cons c r =>
    unfold wordB at h
    simp only [Bool.and_eq_true, decide_eq_true_eq] at h
    obtain ⟨⟨⟨_, h1⟩, h2⟩, h3⟩ := h
    have hc : letB c = true := by simpa using h2
    have e1 : (c :: r).takeWhile wrdB = c :: r := by
      have := while_same wrdB (c :: r)
      rw [h3] at this
      simpa using this
    have e2 : cutOf (c :: r) = ⟨0, 1, c :: r, 0⟩ := by
      rw [cutOf_word r hc]
      unfold wordCut
      rw [e1, if_neg (by omega)]
    obtain ⟨c', r', ht, hb, hx⟩ := good_head (t := ⟨1, c :: r, 0, 0⟩) ⟨e2, by simp⟩
    simp only [List.cons.injEq] at ht
    obtain ⟨rfl, rfl⟩ := ht
    obtain ⟨g1, g2⟩ := hx [] (.inl rfl)
    rw [List.append_nil] at g1 g2
    rw [scanL_tok r 0 hb g1 (by rw [e2]), e2]
    simp only
    rw [List.drop_length, scanL_nil, pre_fine]; rfl
theorem good_word {t : Tok} (h : Good t) (hk : t.kind = 1) : wordB t.text = true := by
  obtain ⟨hc, hn⟩ := h
  cases ht : t.text with
  | nil => exact absurd ht hn
  | cons c r =>
    rw [ht, hk] at hc
    cases h1 : letB c with
    | true =>
      rw [cutOf_word r h1] at hc
      obtain ⟨h2, h3⟩ := word_ok (l := c :: r) (by rw [hc])
      rw [h3] at hc
      have e : (c :: r).takeWhile wrdB = c :: r := congrArg Cut.text hc
      have e2 : (c :: r).all wrdB = true := by rw [← while_same, e]; simp
      rw [e] at h2
      unfold wordB
      rw [e2]
      simp [h1]
      simpa using h2
    | false =>
      cases h2 : digB c with
      | true =>
        rw [cutOf_num r h1 h2] at hc
        have := (num_ok (l := c :: r) (by rw [hc])).2
        rw [this] at hc
        exact absurd (congrArg Cut.kind hc) (by simp)
      | false =>
        rw [cutOf_sign r h1 h2] at hc
        obtain ⟨t', _, e⟩ := sign_ok (l := c :: r) (by rw [hc])
        rw [e] at hc
        exact absurd (congrArg Cut.kind hc) (by simp)
theorem names_pure (l : List UInt8) : (nameB l || keptB l) = oneB l (scanL l 0) := by
  rw [name_or_kept]
  cases hw : wordB l with
  | true => rw [word_one hw]; simp [oneB, Found.fine]
  | false =>
    symm
    cases ho : oneB l (scanL l 0) with
    | false => rfl
    | true =>
      exfalso
      unfold oneB at ho
      simp only [Bool.and_eq_true] at ho
      obtain ⟨_, h2⟩ := ho
      have hg := scan_good l 0
      cases hl : (scanL l 0).toks with
      | nil => rw [hl] at h2; simp at h2
      | cons t L =>
        rw [hl] at h2 hg
        simp at h2
        have := good_word (hg t (by simp)) h2.1
        rw [h2.2, hw] at this
        cases this

/-! ### Places. -/
def PlacesOK (l : List UInt8) : Nat → List Tok → Prop
  | _, [] => True
  | e, t :: L => e ≤ t.pl ∧ 1 ≤ t.text.length ∧ t.pl + t.text.length ≤ l.length ∧ (l.drop t.pl).take t.text.length = t.text ∧ (t.kind = 1 ∨ t.kind = 2 ∨ t.kind = 3) ∧ (t.n ≠ 0 → t.kind = 2) ∧ 0 ≤ t.n ∧ t.n ≤ 4294967296 ∧ PlacesOK l (t.pl + t.text.length) L
theorem places_mono {l : List UInt8} : ∀ {L : List Tok} {e e' : Nat}, e' ≤ e → PlacesOK l e L → PlacesOK l e' L
  | [], _, _, _, _ => trivial
  | _ :: _, _, _, h, hp => ⟨Nat.le_trans h hp.1, hp.2⟩
theorem cut_kinds {m : List UInt8} (h : (cutOf m).err = 0) : ((cutOf m).kind = 1 ∨ (cutOf m).kind = 2 ∨ (cutOf m).kind = 3) ∧ ((cutOf m).n ≠ 0 → (cutOf m).kind = 2) ∧ 0 ≤ (cutOf m).n ∧ (cutOf m).n ≤ 4294967296 := by
  cases m with
  | nil => exact absurd h (by decide)
  | cons c r =>
    cases h1 : letB c with
    | true =>
      rw [cutOf_word r h1] at *
      rw [(word_ok h).2]; exact ⟨.inl rfl, fun h => absurd rfl h, Int.le_refl _, by simp⟩
    | false =>
      cases h2 : digB c with
      | true =>
        rw [cutOf_num r h1 h2] at *
        obtain ⟨h3, h4⟩ := num_ok h
        rw [h4]
        exact ⟨.inr (.inl rfl), fun _ => rfl, Int.natCast_nonneg _, by show ((valN _ : Nat) : Int) ≤ _; omega⟩
      | false =>
        rw [cutOf_sign r h1 h2] at *
        obtain ⟨t', _, e⟩ := sign_ok h
        rw [e]; exact ⟨.inr (.inr rfl), fun h => absurd rfl h, Int.le_refl _, by simp⟩
theorem places_pure (l : List UInt8) : ∀ (m : List UInt8) (a : Nat), a ≤ l.length → l.drop a = m → PlacesOK l a (scanL m a).toks := by
  refine scan_ind (fun a _ _ => ?_) (fun c r a h ih ha hd => ?_) (fun c r a h h2 ih ha hd => ?_) (fun c r a h h2 h3 ih ha hd => ?_) (fun c r a h h2 h3 _ _ => ?_)
  · rw [scanL_nil]; trivial
  · rw [scanL_blank r a h]
    have hl := congrArg List.length hd
    simp only [List.length_drop, List.length_cons] at hl
    exact places_mono (Nat.le_succ a) (ih (by omega) (by rw [← List.drop_drop, hd]; rfl))
  · rw [scanL_rem r a h h2]
    have hl := congrArg List.length hd
    have h4 : ((c :: r).takeWhile linB).length ≤ (c :: r).length := (List.takeWhile_sublist _).length_le
    simp only [List.length_drop] at hl
    exact places_mono (Nat.le_add_right a _) (ih (by omega) (by rw [← List.drop_drop, hd]))
  · rw [scanL_tok r a h h2 h3]
    have hl := congrArg List.length hd
    simp only [List.length_drop] at hl
    have e := cut_ok h3
    have e1 := e.1.length_le
    have e3 := cut_kinds h3
    have ih' := ih (by omega) (by rw [← List.drop_drop, hd])
    unfold Found.pre
    by_cases he : (scanL ((c :: r).drop (cutOf (c :: r)).text.length) (a + (cutOf (c :: r)).text.length)).err = 0
    · rw [if_pos he]
      refine ⟨Nat.le_refl _, e.2, by simp only; omega, ?_, e3.1, e3.2.1, e3.2.2.1, e3.2.2.2, ih'⟩
      simp only
      rw [hd]
      exact (List.prefix_iff_eq_take.1 e.1).symm
    · rw [if_neg he]; trivial
  · rw [scanL_bad r a h h2 h3]; trivial
end Go.Proofs.YtgecocpcbfccgaaDoor
