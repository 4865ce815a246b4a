/-
  DERIVED. Layer 3: kept words, names, what stands at a place: nothing of the program in it.
-/
import Derived.Test.YtcmbcbdijmknnaaDoorPure
namespace Go.Proofs.YtcmbcbdijmknnaaDoor

theorem valFrom_append (n : Nat) (l m : List UInt8) : valFrom n (l ++ m) = valFrom (valFrom n l) m := by
  simp [valFrom, List.foldl_append]
theorem valN_snoc (l : List UInt8) (c : UInt8) : valN (l ++ [c]) = valN l * 10 + (c.toNat - 48) := by
  unfold valN; rw [valFrom_append]; rfl
/-- The words that are kept. -/
def keptTab : List (List UInt8) := [[108, 105, 110, 101], [118, 111, 108], [108, 111, 99, 107], [116, 104, 114, 101, 97, 100], [114, 101, 103], [108, 111, 97, 100], [115, 116, 111, 114, 101], [99, 97, 115], [102, 108, 117, 115, 104], [111, 112, 116], [115, 102, 101, 110, 99, 101], [109, 102, 101, 110, 99, 101], [116, 97, 107, 101], [103, 105, 118, 101], [105, 102], [101, 108, 115, 101], [108, 111, 111, 112], [98, 114, 101, 97, 107], [99, 104, 101, 99, 107], [114, 101, 99, 111, 118, 101, 114], [97, 108, 119, 97, 121, 115]]
def keptB (l : List UInt8) : Bool := keptTab.any (fun t => t == l)
/-- Is a text a name? -/
def nameB (l : List UInt8) : Bool := !l.isEmpty && decide (l.length ≤ 16) && l.head?.any letB && l.all wrdB && !keptB l
theorem while_same (p : UInt8 → Bool) (l : List UInt8) : (l.takeWhile p == l) = l.all p := by
  induction l with
  | nil => rfl
  | cons c l ih =>
    rw [List.takeWhile_cons]
    cases h : p c with
    | true => simp only [if_true, List.all_cons, h, Bool.true_and]; rw [← ih]; simp
    | false => simp [h]
/-- Does a word, or a sign, stand at a place; where a token stands. -/
def isB (L : List Tok) (i : Int) (s : List UInt8) : Bool := decide (0 ≤ i) && (L[i.toNat]?).any (fun t => (t.kind == 1 || t.kind == 3) && t.text == s)
def placeV (L : List Tok) (i : Int) : Int := match (if 0 ≤ i then L[i.toNat]? else none) with
  | some t => t.pl
  | none => match L.getLast? with
    | some t => t.pl + t.text.length
    | none => 0
/-- Places and texts that are not too great. -/
def SmallT (L : List Tok) : Prop := ∀ t ∈ L, t.pl ≤ 100000 ∧ t.text.length ≤ 100000
theorem place_in {L : List Tok} {k : Nat} {a : Tok} (ha : L[k]? = some a) : placeV L k = a.pl := by
  unfold placeV; rw [if_pos (by omega), Int.toNat_natCast, ha]
theorem place_out {L : List Tok} {i : Int} {a : Tok} (hi : ¬ (0 ≤ i ∧ i < L.length)) (ha : L[L.length - 1]? = some a) : placeV L i = a.pl + a.text.length := by
  have e : (if 0 ≤ i then L[i.toNat]? else none) = none := by
    by_cases h : 0 ≤ i
    · rw [if_pos h]; exact List.getElem?_eq_none (by omega)
    · rw [if_neg h]
  unfold placeV
  rw [e, List.getLast?_eq_getElem?, ha]
theorem place_nil (i : Int) : placeV [] i = 0 := by
  unfold placeV
  have e : (if 0 ≤ i then ([] : List Tok)[i.toNat]? else none) = none := by simp
  rw [e]; rfl

def wordB (l : List UInt8) : Bool := !l.isEmpty && decide (l.length ≤ 16) && l.head?.any letB && l.all wrdB
theorem kept_word : ∀ t ∈ keptTab, wordB t = true := by decide
theorem kept_mem {l : List UInt8} (h : keptB l = true) : l ∈ keptTab := by
  unfold keptB at h
  rw [List.any_eq_true] at h
  obtain ⟨t, ht, e⟩ := h
  simp at e; subst e; exact ht
theorem name_or_kept (l : List UInt8) : (nameB l || keptB l) = wordB l := by
  cases hk : keptB l with
  | true => rw [Bool.or_true, kept_word l (kept_mem hk)]
  | false => unfold nameB wordB; rw [hk]; simp
theorem name_not_kept (l : List UInt8) : (nameB l && keptB l) = false := by
  unfold nameB
  cases keptB l <;> simp
theorem word_one {l : List UInt8} (h : wordB l = true) : scanL l 0 = .fine [⟨1, l, 0, 0⟩] := by
  cases l with
  | nil => exact absurd h (by decide)
  | cons c r =>
    unfold wordB at h
    simp only [Bool.and_eq_true, decide_eq_true_eq] at h
    obtain ⟨⟨⟨_, h1⟩, h2⟩, h3⟩ := h
    have hc : letB c = true := by simpa using h2
    have e1 : (c :: r).takeWhile wrdB = c :: r := by
      have := while_same wrdB (c :: r)
      rw [h3] at this
      simpa using this
    have e2 : cutOf (c :: r) = ⟨0, 1, c :: r, 0⟩ := by
      rw [cutOf_word r hc]
      unfold wordCut
      rw [e1, if_neg (by omega)]
    obtain ⟨c', r', ht, hb, hx⟩ := good_head (t := ⟨1, c :: r, 0, 0⟩) ⟨e2, by simp⟩
    simp only [List.cons.injEq] at ht
    obtain ⟨rfl, rfl⟩ := ht
    obtain ⟨g1, g2⟩ := hx [] (.inl rfl)
    rw [List.append_nil] at g1 g2
    rw [scanL_tok r 0 hb g1 (by rw [e2]), e2]
    simp only
    rw [List.drop_length, scanL_nil, pre_fine]; rfl
theorem good_word {t : Tok} (h : Good t) (hk : t.kind = 1) : wordB t.text = true := by
  obtain ⟨hc, hn⟩ := h
  cases ht : t.text with
  | nil => exact absurd ht hn
  | cons c r =>
    rw [ht, hk] at hc
    cases h1 : letB c with
    | true =>
      rw [cutOf_word r h1] at hc
      obtain ⟨h2, h3⟩ := word_ok (l := c :: r) (by rw [hc])
      rw [h3] at hc
      have e : (c :: r).takeWhile wrdB = c :: r := congrArg Cut.text hc
      have e2 : (c :: r).all wrdB = true := by rw [← while_same, e]; simp
      rw [e] at h2
      unfold wordB
      rw [e2]
      simp [h1]
      simpa using h2
    | false =>
      cases h2 : digB c with
      | true =>
        rw [cutOf_num r h1 h2] at hc
        have := (num_ok (l := c :: r) (by rw [hc])).2
        rw [this] at hc
        exact absurd (congrArg Cut.kind hc) (by simp)
      | false =>
        rw [cutOf_sign r h1 h2] at hc
        obtain ⟨t', _, e⟩ := sign_ok (l := c :: r) (by rw [hc])
        rw [e] at hc
        exact absurd (congrArg Cut.kind hc) (by simp)
def PlacesOK (l : List UInt8) : Nat → List Tok → Prop
  | _, [] => True
  | e, t :: L => e ≤ t.pl ∧ 1 ≤ t.text.length ∧ t.pl + t.text.length ≤ l.length ∧ (l.drop t.pl).take t.text.length = t.text ∧ (t.kind = 1 ∨ t.kind = 2 ∨ t.kind = 3) ∧ (t.n ≠ 0 → t.kind = 2) ∧ 0 ≤ t.n ∧ t.n ≤ 4294967296 ∧ PlacesOK l (t.pl + t.text.length) L
theorem places_mono {l : List UInt8} : ∀ {L : List Tok} {e e' : Nat}, e' ≤ e → PlacesOK l e L → PlacesOK l e' L
  | [], _, _, _, _ => trivial
  | _ :: _, _, _, h, hp => ⟨Nat.le_trans h hp.1, hp.2⟩
theorem cut_kinds {m : List UInt8} (h : (cutOf m).err = 0) : ((cutOf m).kind = 1 ∨ (cutOf m).kind = 2 ∨ (cutOf m).kind = 3) ∧ ((cutOf m).n ≠ 0 → (cutOf m).kind = 2) ∧ 0 ≤ (cutOf m).n ∧ (cutOf m).n ≤ 4294967296 := by
  cases m with
  | nil => exact absurd h (by decide)
  | cons c r =>
    cases h1 : letB c with
    | true =>
      rw [cutOf_word r h1] at *
      rw [(word_ok h).2]; exact ⟨.inl rfl, fun h => absurd rfl h, Int.le_refl _, by simp⟩
    | false =>
      cases h2 : digB c with
      | true =>
        rw [cutOf_num r h1 h2] at *
        obtain ⟨h3, h4⟩ := num_ok h
        rw [h4]
        exact ⟨.inr (.inl rfl), fun _ => rfl, Int.natCast_nonneg _, by show ((valN _ : Nat) : Int) ≤ _; omega⟩
      | false =>
        rw [cutOf_sign r h1 h2] at *
        obtain ⟨t', _, e⟩ := sign_ok h
        rw [e]; exact ⟨.inr (.inr rfl), fun h => absurd rfl h, Int.le_refl _, by simp⟩
theorem places_pure (l : List UInt8) : ∀ (m : List UInt8) (a : Nat), a ≤ l.length → l.drop a = m → PlacesOK l a (scanL m a).toks := by
  refine scan_ind (fun a _ _ => ?_) (fun c r a h ih ha hd => ?_) (fun c r a h h2 ih ha hd => ?_) (fun c r a h h2 h3 ih ha hd => ?_) (fun c r a h h2 h3 _ _ => ?_)
  · rw [scanL_nil]; trivial
  · rw [scanL_blank r a h]
    have hl := congrArg List.length hd
    simp only [List.length_drop, List.length_cons] at hl
    exact places_mono (Nat.le_succ a) (ih (by omega) (by rw [← List.drop_drop, hd]; rfl))
  · rw [scanL_rem r a h h2]
    have hl := congrArg List.length hd
    have h4 : ((c :: r).takeWhile linB).length ≤ (c :: r).length := (List.takeWhile_sublist _).length_le
    simp only [List.length_drop] at hl
    exact places_mono (Nat.le_add_right a _) (ih (by omega) (by rw [← List.drop_drop, hd]))
  · rw [scanL_tok r a h h2 h3]
    have hl := congrArg List.length hd
    simp only [List.length_drop] at hl
    have e := cut_ok h3
    have e1 := e.1.length_le
    have e3 := cut_kinds h3
    have ih' := ih (by omega) (by rw [← List.drop_drop, hd])
    unfold Found.pre
    by_cases he : (scanL ((c :: r).drop (cutOf (c :: r)).text.length) (a + (cutOf (c :: r)).text.length)).err = 0
    · rw [if_pos he]
      refine ⟨Nat.le_refl _, e.2, by simp only; omega, ?_, e3.1, e3.2.1, e3.2.2.1, e3.2.2.2, ih'⟩
      simp only
      rw [hd]
      exact (List.prefix_iff_eq_take.1 e.1).symm
    · rw [if_neg he]; trivial
  · rw [scanL_bad r a h h2 h3]; trivial
end Go.Proofs.YtcmbcbdijmknnaaDoor
