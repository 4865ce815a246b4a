/-
  DERIVED. Layer 3: what the laws ExprBack and ExprShown rest on: nothing of the program's walks in it.
-/
import Derived.Test.YtcmbcbdijmknnaaDoorBackP
import Derived.Test.YtcmbcbdijmknnaaDoorParse
namespace Go.Proofs.YtcmbcbdijmknnaaDoor
open Go

theorem deep_bare : ∀ x : Ex, (bareX x).deep = x.deep
  | .leaf _ => rfl
  | .un _ x => by simp only [bareX, Ex.deep, deep_bare x]
  | .bin _ x y => by simp only [bareX, Ex.deep, deep_bare x, deep_bare y]
theorem size_bare : ∀ x : Ex, (bareX x).size = x.size
  | .leaf _ => rfl
  | .un _ x => by simp only [bareX, Ex.size, size_bare x]
  | .bin _ x y => by simp only [bareX, Ex.size, size_bare x, size_bare y]
theorem flat_bare : ∀ x : Ex, (bareX x).flat = x.flat.map bareN
  | .leaf _ => rfl
  | .un _ x => by simp only [bareX, Ex.flat, flat_bare x, List.map_cons]
  | .bin _ x y => by simp only [bareX, Ex.flat, flat_bare x, flat_bare y, List.map_cons, List.map_append]
theorem eq_bare {a b : Nod} (h : bareN a = bareN b) : nodEq false a b = true := by
  have h1 : a.op = b.op := show (bareN a).op = (bareN b).op from by rw [h]
  have h2 : a.n = b.n := show (bareN a).n = (bareN b).n from by rw [h]
  have h3 : a.name = b.name := show (bareN a).name = (bareN b).name from by rw [h]
  simp [nodEq, h1, h2, h3]
theorem same_bare : ∀ {L M : List Nod}, L.map bareN = M.map bareN → sameN false L M = true
  | [], [], _ => rfl
  | [], b :: m, h => by simp at h
  | a :: l, [], h => by simp at h
  | a :: l, b :: m, h => by
    simp only [List.map_cons, List.cons.injEq] at h
    have ih := same_bare h.2
    unfold sameN at *
    unfold sameG
    rw [eq_bare h.1, ih]; rfl
/-- What is shown of an expression that is right is read as it was. -/
theorem shown_back {x : Ex} (h : GoodX x) (hd : x.deep ≤ 12) (hs : x.size ≤ 40) : ∃ x' : Ex, x'.ok ∧ x'.deep = x.deep ∧ x'.size = x.size ∧ exprV (scanL (showX false x) 0).toks 0 = ⟨x'.flat, ((scanL (showX false x) 0).toks.length : Int), 0, 0⟩ ∧ sameN false x.flat x'.flat = true ∧ sameN false x'.flat x.flat = true := by
  obtain ⟨T, hT, hsc⟩ := scan_shown x false [] 0 h (.inl rfl)
  rw [List.append_nil, scanL_nil, pre_fine, List.append_nil] at hsc
  have ht : (scanL (showX false x) 0).toks = T := by rw [hsc]; rfl
  rw [ht]
  have hlen : T.length = (toksX false x).length := by rw [← hT, List.length_map]
  have hF : From T 0 (toksX false x) := by unfold From; rw [List.drop_zero, hT]
  have key : ∃ x' f, bareX x' = bareX x ∧ chainF T f 1 0 0 = some (.ok x' (0 + (toksX false x).length)) := by
    cases x with
    | leaf a =>
      obtain ⟨x', f, h1, h2⟩ := single_shown (.leaf a) T 0 0 [] h (by rw [List.append_nil]; exact hF) (by omega)
      have hF2 : From T (0 + (toksX true (.leaf a)).length) [] := by
        have := From.app (S := toksX true (.leaf a)) (T := []) (by rw [List.append_nil]; exact hF); exact this
      obtain ⟨f', hf'⟩ := chain_lift h2 5 1 (by omega) (by omega) (fun c _ _ => no_sign_end hF2)
      exact ⟨x', f', h1, hf'⟩
    | un a y =>
      obtain ⟨x', f, h1, h2⟩ := single_shown (.un a y) T 0 0 [] h (by rw [List.append_nil]; exact hF) (by omega)
      have hF2 : From T (0 + (toksX true (.un a y)).length) [] := by
        have := From.app (S := toksX true (.un a y)) (T := []) (by rw [List.append_nil]; exact hF); exact this
      obtain ⟨f', hf'⟩ := chain_lift h2 5 1 (by omega) (by omega) (fun c _ _ => no_sign_end hF2)
      exact ⟨x', f', h1, hf'⟩
    | bin a y z =>
      have hn : nodOK a = true := good_top h
      obtain ⟨gx, gy⟩ := good_bin h
      have hop := takes_op h.1.1
      obtain ⟨k, hk⟩ : ∃ k : Nat, a.op = k := ⟨a.op.toNat, by omega⟩
      have hk2 : takesN (k : Int) = some 2 := by rw [← hk]; exact h.1.1
      have hkn : a.op.toNat = k := by omega
      have e : toksX false (.bin a y z) = toksX true y ++ signTok k :: toksX true z := by simp [toksX, hkn]
      have hF1 : From T 0 (toksX true y ++ (signTok k :: (toksX true z ++ []))) := by rw [e] at hF; simpa using hF
      simp only [Ex.deep] at hd
      obtain ⟨y', f, hy', hf⟩ := single_shown y T 0 0 _ gx hF1 (by omega)
      have hF2 := hF1.app
      obtain ⟨t2, _, _, hF3⟩ := From.head hF2
      obtain ⟨z', g, hz', hg⟩ := single_shown z T (0 + (toksX true y).length + 1) 0 _ gy hF3 (by omega)
      have hF4 := hF3.app
      obtain ⟨f', hf'⟩ := bin_read hk2 hf hF2 hg (fun c _ => no_sign_end hF4)
      refine ⟨.bin ⟨k, 0, [], plAt T (0 + (toksX true y).length)⟩ y' z', f', ?_, ?_⟩
      · simp only [bareX]
        rw [hy', hz', bare_sign hk (sign_nod hn (by
          intro e1; rw [e1] at hk; have : k = 1 := by omega
          subst this; exact absurd hk2 (by decide)) (by
          intro e1; rw [e1] at hk; have : k = 2 := by omega
          subst this; exact absurd hk2 (by decide)))]
      · rw [hf', e]
        congr 2
        simp only [List.length_append, List.length_cons]; omega
  obtain ⟨x', f, hx', hf⟩ := key
  have hd' : x'.deep = x.deep := by rw [← deep_bare x', hx', deep_bare]
  have hs' : x'.size = x.size := by rw [← size_bare x', hx', size_bare]
  have hfl : x'.flat.map bareN = x.flat.map bareN := by rw [← flat_bare, hx', flat_bare]
  have hp : parseR T 0 = .ok x' T.length := by
    have := parseR_of hf
    rw [this, hlen, Nat.zero_add]
  have hok : x'.ok := by
    have := parseR_fine T 0
    rw [hp] at this
    exact this.2.2.1
  refine ⟨x', hok, hd', hs', ?_, same_bare hfl.symm, same_bare hfl⟩
  have := exprV_nat T 0
  rw [show exprV T 0 = exprV T ((0 : Nat) : Int) from rfl, this, hp, exprR_ok (by omega) (by omega)]

/-! ### Of a text's tokens. -/
theorem places_mem {l : List UInt8} : ∀ {L : List Tok} {e : Nat}, PlacesOK l e L → ∀ t ∈ L, t.pl + t.text.length ≤ l.length ∧ 0 ≤ t.n ∧ t.n ≤ 4294967296
  | [], _, _, t, h => by simp at h
  | a :: L, e, hp, t, h => by
    obtain ⟨h1, h2, h3, h4, h5, h6, h7, h8, h9⟩ := hp
    rcases List.mem_cons.1 h with rfl | h
    · exact ⟨h3, h7, h8⟩
    · exact places_mem h9 t h
theorem places_count {l : List UInt8} : ∀ {L : List Tok} {e : Nat}, e ≤ l.length → PlacesOK l e L → L.length + e ≤ l.length
  | [], e, he, _ => by simpa using he
  | a :: L, e, he, hp => by
    obtain ⟨h1, h2, h3, h4, h5, h6, h7, h8, h9⟩ := hp
    have := places_count h3 h9
    simp only [List.length_cons]; omega
theorem scan_facts (l : List UInt8) : (scanL l 0).toks.length ≤ l.length ∧ ∀ t ∈ (scanL l 0).toks, t.pl + t.text.length ≤ l.length ∧ 0 ≤ t.n ∧ t.n ≤ 4294967296 := by
  have h := places_pure l l 0 (Nat.zero_le _) rfl
  exact ⟨by have := places_count (Nat.zero_le _) h; omega, places_mem h⟩
theorem place_le {L : List Tok} {n : Nat} (h : ∀ t ∈ L, t.pl + t.text.length ≤ n) (i : Int) : 0 ≤ placeV L i ∧ placeV L i ≤ n := by
  by_cases hi : 0 ≤ i ∧ i < L.length
  · obtain ⟨k, rfl⟩ : ∃ k : Nat, i = k := ⟨i.toNat, by omega⟩
    have hk : k < L.length := by omega
    rw [place_in (List.getElem?_eq_getElem hk)]
    have := h _ (List.getElem_mem hk)
    omega
  · by_cases h0 : L = []
    · subst h0; rw [place_nil]; omega
    · have hp : 0 < L.length := List.length_pos_iff.2 h0
      rw [place_out hi (List.getElem?_eq_getElem (show L.length - 1 < L.length by omega))]
      have := h _ (List.getElem_mem (show L.length - 1 < L.length by omega))
      omega
theorem scan_small {l : List UInt8} (h : l.length ≤ 4000) : SmallT (scanL l 0).toks := by
  intro t ht
  have := (scan_facts l).2 t ht
  omega
theorem nod_of {L : List Tok} {n : Nat} (hn : n ≤ 4000) (h : ∀ t ∈ L, t.pl + t.text.length ≤ n ∧ 0 ≤ t.n ∧ t.n ≤ 4294967296) {a : Nod} (ha : NodOf L a) : nodOK a = true := by
  obtain ⟨t, ht, hpl, hc⟩ := ha
  have := h t ht
  unfold nodOK
  rw [hpl]
  rcases hc with ⟨_, h1, h2, h3⟩ | ⟨_, hnm, h1, h2, h3⟩ | ⟨h1, h2, h3, h4⟩
  · rw [if_pos h1, h2, h3]; simp; omega
  · rw [if_neg (by omega), if_pos h1, h2, h3, hnm]; simp; omega
  · rw [if_neg (by omega), if_neg (by omega), h3, h4]; simp; omega
/-- What is read of a text. -/
theorem back_pure (l : List UInt8) (hl : l.length ≤ 600) : ((exprV (scanL l 0).toks 0).err ≠ 0 ∧ (exprV (scanL l 0).toks 0).nodes = [] ∧ (exprV (scanL l 0).toks 0).to = 0 ∧ 0 ≤ (exprV (scanL l 0).toks 0).pl ∧ (exprV (scanL l 0).toks 0).pl ≤ l.length) ∨
    (∃ x : Ex, GoodX x ∧ x.deep ≤ 12 ∧ x.size ≤ 40 ∧ rightL x.flat = true ∧ ∃ to : Nat, exprV (scanL l 0).toks 0 = ⟨x.flat, to, 0, 0⟩ ∧ 1 ≤ to ∧ to ≤ (scanL l 0).toks.length) := by
  obtain ⟨h1, h2⟩ := scan_facts l
  generalize (scanL l 0).toks = L at *
  have hpl := place_le (n := l.length) (fun t ht => (h2 t ht).1)
  have hf := parseR_fine L 0
  have he := exprV_nat L 0
  rw [show exprV L 0 = exprV L ((0 : Nat) : Int) from rfl, he]
  cases hp : parseR L 0 with
  | bad e j =>
    rw [hp] at hf
    obtain ⟨h3, _⟩ := hf
    exact .inl ⟨by show e ≠ 0; omega, rfl, rfl, (hpl j).1, (hpl j).2⟩
  | ok x to =>
    rw [hp] at hf
    obtain ⟨g1, g2, g3, g4, g5⟩ := hf
    by_cases hd : 12 < x.deep
    · rw [exprR_deep hd]
      exact .inl ⟨by show (7 : Int) ≠ 0; decide, rfl, rfl, (hpl _).1, (hpl _).2⟩
    · by_cases hs : 40 < x.size
      · rw [exprR_big hd hs]
        exact .inl ⟨by show (2 : Int) ≠ 0; decide, rfl, rfl, (hpl _).1, (hpl _).2⟩
      · rw [exprR_ok hd hs]
        have hall : x.flat.all nodOK = true := List.all_eq_true.2 fun a ha => nod_of (n := l.length) (by omega) h2 (g5 a ha)
        refine .inr ⟨x, ⟨g3, hall⟩, by omega, by omega, ?_, to, rfl, by omega, g2⟩
        rw [right_flat g3, hall]
        simp; omega
theorem good_right {L : List Nod} (h : rightL L = true) : ∃ x : Ex, L = x.flat ∧ GoodX x ∧ x.deep ≤ 12 ∧ x.size ≤ 40 ∧ shownL L = showX false x ∧ depthL L = x.deep := by
  obtain ⟨x, hw, ho, rfl, h40, hall, hd⟩ := right_some h
  refine ⟨x, rfl, ⟨ho, hall⟩, hd, by rw [← flat_len]; exact h40, ?_, ?_⟩
  · unfold shownL; rw [hw]; simp [h]
  · unfold depthL; rw [hw]; simp [h]
theorem shown_len {x : Ex} (h : GoodX x) (hs : x.size ≤ 40) : (showX false x).length ≤ 840 := by
  have := show_len x false (small_all h.2)
  omega
theorem right_same {x x' : Ex} (ho : x'.ok) (hd : x.deep ≤ 12) (hs : x.size ≤ 40) (hdd : x'.deep = x.deep) (hss : x'.size = x.size) (hg : x'.flat.all nodOK = true) : depthL x'.flat = x.deep := by
  have : rightL x'.flat = true := by rw [right_flat ho, hg]; simp; omega
  unfold depthL; rw [whole_flat ho]; simp [this, hdd]
end Go.Proofs.YtcmbcbdijmknnaaDoor
