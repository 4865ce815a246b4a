/-
  DERIVED. Texts of the walk, packed: Parse, BackQ, StRead.
-/
import Derived.Test.YtpeohfgadnfnpaaGreatDoorQ16
import Derived.Test.YtpeohfgadnfnpaaGreatDoorQ10
import Derived.Test.YtpeohfgadnfnpaaGreatDoorQ07
/-
  DERIVED. Layer 3: the contract of expr.Parse: the expression that begins at any token.
-/
namespace Go.Proofs.YtpeohfgadnfnpaaGreatDoor
open Go.RowKit

theorem chain_step (L : List Tok) (f : Nat) (hl : L.length ≤ 10000) (hc : ∀ f', f' ≤ f → ChainSays L f') (hs : SingleSays L f) : ChainSays L (f + 1) := by
  intro b i d r g v w hb hb2 hd hr h
  rw [chainF] at hr
  by_cases h6 : b = 6
  · rw [if_pos h6] at hr
    subst h6
    exact chain_six L f hs i d r g v w hd hr h
  · rw [if_neg h6] at hr
    cases hch : chainF L f (b + 1) i d with
    | none => rw [hch] at hr; cases hr
    | some r1 =>
      refine chain_loop L f hl hc b i d r1 r g v w hb (by omega) hd hch ?_ h
      rw [hch] at hr
      cases r1 with
      | ok x to => exact hr
      | bad e j => simp at hr; exact hr.symm
theorem says_all (L : List Tok) (hl : L.length ≤ 10000) (hsm : SmallT L) : ∀ f, (∀ f', f' ≤ f → ChainSays L f') ∧ SingleSays L f := by
  intro f
  induction f with
  | zero =>
    refine ⟨fun f' hf' => ?_, fun i d r g v w _ hr => by simp [singleF] at hr⟩
    obtain rfl : f' = 0 := by omega
    exact fun b i d r g v w _ _ _ hr => by simp [chainF] at hr
  | succ f ih =>
    refine ⟨fun f' hf' => ?_, single_step L f hl hsm (ih.1 f (Nat.le_refl _)) ih.2⟩
    by_cases e : f' = f + 1
    · subst e; exact chain_step L f hl ih.1 ih.2
    · exact ih.1 f' (by omega)

/-- What Parse comes back with. -/
def GivesE (q : Parsed) (w : World) (e : Ending) (w' : World) : Prop :=
  ∃ v, e = .returned (.tuple #[v, .int .i64 q.to, .int .i64 q.err, .int .i64 q.pl]) ∧ OwnN w' w.heap.size v q.nodes ∧ Below w.heap.size w w'
theorem givesE_of {q q' : Parsed} {w w' : World} {e : Ending} {v : Value} (he : e = .returned (.tuple #[v, .int .i64 q'.to, .int .i64 q'.err, .int .i64 q'.pl])) (h : q = q') (ho : OwnN w' w.heap.size v q'.nodes) (hb : Below w.heap.size w w') : GivesE q w e w' := by
  subst h; exact ⟨v, he, ho, hb⟩
theorem sits_new {L : List Tok} {v : Value} {i : Nat} {w : World} (h : ReadT w v L) (ht : Tabs w) : Sits L (w.alloc (.cells #[v, .int .i64 i, .int .i64 0] 164)) w.heap.size v i 0 := by
  have hb := (Below.refl w.heap.size w).alloc (Nat.le_refl _) (.cells #[v, .int .i64 i, .int .i64 0] 164)
  refine ⟨⟨by simp, by simp, by simp, by simp, by simp, by simp⟩, ?_, ht.on hb, ht.lt2⟩
  obtain ⟨A, c, hv, hc, hr⟩ := h
  refine ⟨A, c, hv, hc, fun j t hj => ?_⟩
  obtain ⟨b, hA, hbl, h0, h1, h2, h3⟩ := hr j t hj
  have e : ∀ o, (w.alloc (.cells #[v, .int .i64 i, .int .i64 0] 164)).cell? ⟨b, o, none⟩ = w.cell? ⟨b, o, none⟩ := fun o => hb.cell (p := ⟨b, o, none⟩) hbl
  exact ⟨b, hA, hbl, (e _).trans h0, (e _).trans h1, (e _).trans h2, (e _).trans h3⟩

def exprR (L : List Tok) (i : Int) : Res → Parsed
  | .bad e j => ⟨[], 0, e, placeV L j⟩
  | .ok x to => if 12 < x.deep then ⟨[], 0, 7, placeV L i⟩ else if 40 < x.size then ⟨[], 0, 2, placeV L i⟩ else ⟨x.flat, to, 0, 0⟩
theorem exprV_nat (L : List Tok) (k : Nat) : exprV L k = exprR L k (parseR L k) := by
  unfold exprV
  rw [if_neg (by omega), Int.toNat_natCast]
  cases parseR L k <;> rfl
theorem exprR_deep {L : List Tok} {k : Int} {x : Ex} {to : Nat} (h : 12 < x.deep) : exprR L k (.ok x to) = ⟨[], 0, 7, placeV L k⟩ := by
  show (if 12 < x.deep then _ else _) = _
  rw [if_pos h]
theorem exprR_big {L : List Tok} {k : Int} {x : Ex} {to : Nat} (h : ¬ 12 < x.deep) (h2 : 40 < x.size) : exprR L k (.ok x to) = ⟨[], 0, 2, placeV L k⟩ := by
  show (if 12 < x.deep then _ else if 40 < x.size then _ else _) = _
  rw [if_neg h, if_pos h2]
theorem exprR_ok {L : List Tok} {k : Int} {x : Ex} {to : Nat} (h : ¬ 12 < x.deep) (h2 : ¬ 40 < x.size) : exprR L k (.ok x to) = ⟨x.flat, to, 0, 0⟩ := by
  show (if 12 < x.deep then _ else if 40 < x.size then _ else (⟨x.flat, to, 0, 0⟩ : Parsed)) = _
  rw [if_neg h, if_neg h2]

set_option maxRecDepth 100000 in
set_option maxHeartbeats 4000000 in
theorem parse_any (v : Value) (L : List Tok) (i : Int) (w : World) (h : ReadT w v L) (ht : Tabs w) (hl : L.length ≤ 10000) (hsm : SmallT L) : Calls Tryz.prog 126 #[v, .int .i64 i] w (GivesE (exprV L i) w) := by
  by_cases hi : i < 0
  · have HQ : Hid (exprV L i = ⟨[], 0, 1, 0⟩) := Lib.hid (by unfold exprV; rw [if_pos hi])
    clear h
    go_enter Tryz.func126, Tryz.ntmps126
    go_wp2_with fail
    refine bodyPost_ret (v := .tuple #[.slice none 0 0, .int .i64 0, .int .i64 1, .int .i64 (0)]) (by simp [results, Tryz.results126, go_sem]) rfl ?_
    exact givesE_of (q' := ⟨[], 0, 1, 0⟩) rfl HQ.out (ownN_nil _ _) (Below.refl _ _)
  · obtain ⟨k, rfl⟩ : ∃ k : Nat, i = k := ⟨i.toNat, by omega⟩
    have HC := Lib.hid (((says_all L hl hsm (20 * (L.length - k) + 12)).1 _ (Nat.le_refl _)) 1 k 0 (parseR L k) w.heap.size v _ (by omega) (by omega) (by omega) (parseR_chain L k) (sits_new h ht))
    have HF := Lib.hid (parseR_fine L k)
    have HX := Lib.hid (exprV_nat L k)
    have HSM := Lib.hid hsm
    have HR := Lib.hid h
    obtain ⟨A0, cc0, rfl, _, _⟩ := h
    clear ht hsm hi
    generalize parseR L k = r at *
    have hz : (w.alloc (.cells #[.slice A0 L.length cc0, .int .i64 k, .int .i64 0] 164)).heap.size = w.heap.size + 1 := by simp
    have HB0 := Lib.hid ((Below.refl w.heap.size w).alloc (Nat.le_refl _) (.cells #[.slice A0 L.length cc0, .int .i64 k, .int .i64 0] 164))
    go_enter Tryz.func126, Tryz.ntmps126
    go_wp2_with fail
    refine HC.out.mono ?_
    rintro e w1 ⟨P, A, n, c, hP, rfl, ho, hS, hK⟩
    rw [hz] at ho
    have hbw : Below w.heap.size w w1 := HB0.out.trans (hK.below (Nat.le_refl _) (by rw [hz]; omega))
    have HP := Lib.hid hP
    have HO := Lib.hid ho
    have HS := Lib.hid hS
    have HB := Lib.hid hbw
    have hgl := hS.rd.lt
    obtain ⟨⟨_, c0, c1, c2, f1, f2⟩, _, _, _⟩ := hS
    clear hP ho hK hbw hz HC HB0 c2 f1 f2
    cases r with
    | bad e j =>
      obtain ⟨he, _⟩ := HF.out
      have he2 : (e != 0) = true := by rcases he with rfl | rfl | rfl <;> rfl
      clear he
      simp only [errOf, posOf] at *
      have HB2 := Lib.hid (HB.out.alloc HB.out.size (.cells #[.slice A n c, .int .i64 P.many, .int .i64 P.deep] 166))
      go_wp2_with fail
      refine (place_any _ L j _ ((HR.out.on HB2.out)) hl HSM.out).mono ?_
      rintro e' w2 ⟨rfl, hb⟩
      go_wp2_with fail
      refine bodyPost_ret (v := .tuple #[.slice none 0 0, .int .i64 0, .int .i64 e, .int .i64 (placeV L j)]) (by simp [results, Tryz.results126, go_sem]) rfl ?_
      exact givesE_of (q' := ⟨[], 0, e, placeV L j⟩) rfl HX.out (ownN_nil _ _) (below_then HB2.out hb)
    | ok x to =>
      obtain ⟨h1, h2, h3, h4, h5⟩ := HF.out
      have hdz := deep_size x
      obtain rfl : P = prtOf x := HP.out
      have HB2 := Lib.hid (HB.out.alloc HB.out.size (.cells #[.slice A n c, .int .i64 (prtOf x).many, .int .i64 (prtOf x).deep] 166))
      have em : (prtOf x).many = x.size := rfl
      have ed : (prtOf x).deep = x.deep := rfl
      simp only [errOf, posOf, em, ed] at *
      clear em ed h5
      by_cases hd : 12 < x.deep
      · have HX2 : Hid (exprV L k = ⟨[], 0, 7, placeV L k⟩) := Lib.hid (by rw [HX.out, exprR_deep hd])
        have hdi : (12 : Int) < (x.deep : Int) := by omega
        go_wp2_with fail
        refine (place_any _ L k _ ((HR.out.on HB2.out)) hl HSM.out).mono ?_
        rintro e' w2 ⟨rfl, hb⟩
        go_wp2_with fail
        refine bodyPost_ret (v := .tuple #[.slice none 0 0, .int .i64 0, .int .i64 7, .int .i64 (placeV L k)]) (by simp [results, Tryz.results126, go_sem]) rfl ?_
        exact givesE_of (q' := ⟨[], 0, 7, placeV L k⟩) rfl HX2.out (ownN_nil _ _) (below_then HB2.out hb)
      · have hdi : ¬ (12 : Int) < (x.deep : Int) := by omega
        by_cases hs : 40 < x.size
        · have HX2 : Hid (exprV L k = ⟨[], 0, 2, placeV L k⟩) := Lib.hid (by rw [HX.out, exprR_big hd hs])
          have hsi : (40 : Int) < (x.size : Int) := by omega
          go_wp2_with fail
          refine (place_any _ L k _ ((HR.out.on HB2.out)) hl HSM.out).mono ?_
          rintro e' w2 ⟨rfl, hb⟩
          go_wp2_with fail
          refine bodyPost_ret (v := .tuple #[.slice none 0 0, .int .i64 0, .int .i64 2, .int .i64 (placeV L k)]) (by simp [results, Tryz.results126, go_sem]) rfl ?_
          exact givesE_of (q' := ⟨[], 0, 2, placeV L k⟩) rfl HX2.out (ownN_nil _ _) (below_then HB2.out hb)
        · have HX2 : Hid (exprV L k = ⟨x.flat, to, 0, 0⟩) := Lib.hid (by rw [HX.out, exprR_ok hd hs])
          have hsi : ¬ (40 : Int) < (x.size : Int) := by omega
          have HO2 : Hid (OwnN w1 w.heap.size (.slice A n c) x.flat) := Lib.hid (by
            have h0 := HO.out.base (B' := w.heap.size) (by omega)
            rw [show (prtOf x).ns = x.flat from by show (if x.size ≤ 40 then x.flat else []) = _; rw [if_pos (by omega)]] at h0
            exact h0)
          go_wp2_with fail
          go_quiet (fail)
          go_wp2_with fail
          refine bodyPost_ret (v := .tuple #[.slice A n c, .int .i64 to, .int .i64 0, .int .i64 0]) (by simp [results, Tryz.results126, go_sem]) rfl ?_
          exact givesE_of (q' := ⟨x.flat, to, 0, 0⟩) rfl HX2.out ((HO2.out.on ((Below.refl _ _).alloc (Nat.le_refl _) _)).on (below_drew1 _ _)) (HB2.out.trans (below_anyN _ _ _))
end Go.Proofs.YtpeohfgadnfnpaaGreatDoor
/-
  DERIVED. Layer 3: what the laws ExprBack and ExprShown rest on: nothing of the program's walks in it.
-/
namespace Go.Proofs.YtpeohfgadnfnpaaGreatDoor
open Go

theorem deep_bare : ∀ x : Ex, (bareX x).deep = x.deep
  | .leaf _ => rfl
  | .un _ x => by simp only [bareX, Ex.deep, deep_bare x]
  | .bin _ x y => by simp only [bareX, Ex.deep, deep_bare x, deep_bare y]
theorem size_bare : ∀ x : Ex, (bareX x).size = x.size
  | .leaf _ => rfl
  | .un _ x => by simp only [bareX, Ex.size, size_bare x]
  | .bin _ x y => by simp only [bareX, Ex.size, size_bare x, size_bare y]
theorem flat_bare : ∀ x : Ex, (bareX x).flat = x.flat.map bareN
  | .leaf _ => rfl
  | .un _ x => by simp only [bareX, Ex.flat, flat_bare x, List.map_cons]
  | .bin _ x y => by simp only [bareX, Ex.flat, flat_bare x, flat_bare y, List.map_cons, List.map_append]
theorem eq_bare {a b : Nod} (h : bareN a = bareN b) : nodEq false a b = true := by
  have h1 : a.op = b.op := show (bareN a).op = (bareN b).op from by rw [h]
  have h2 : a.n = b.n := show (bareN a).n = (bareN b).n from by rw [h]
  have h3 : a.name = b.name := show (bareN a).name = (bareN b).name from by rw [h]
  simp [nodEq, h1, h2, h3]
theorem same_bare : ∀ {L M : List Nod}, L.map bareN = M.map bareN → sameN false L M = true
  | [], [], _ => rfl
  | [], b :: m, h => by simp at h
  | a :: l, [], h => by simp at h
  | a :: l, b :: m, h => by
    simp only [List.map_cons, List.cons.injEq] at h
    have ih := same_bare h.2
    unfold sameN at *
    unfold sameG
    rw [eq_bare h.1, ih]; rfl
/-- What is shown of an expression that is right is read as it was. -/
theorem shown_back {x : Ex} (h : GoodX x) (hd : x.deep ≤ 12) (hs : x.size ≤ 40) : ∃ x' : Ex, x'.ok ∧ x'.deep = x.deep ∧ x'.size = x.size ∧ exprV (scanL (showX false x) 0).toks 0 = ⟨x'.flat, ((scanL (showX false x) 0).toks.length : Int), 0, 0⟩ ∧ sameN false x.flat x'.flat = true ∧ sameN false x'.flat x.flat = true := by
  obtain ⟨T, hT, hsc⟩ := scan_shown x false [] 0 h (.inl rfl)
  rw [List.append_nil, scanL_nil, pre_fine, List.append_nil] at hsc
  have ht : (scanL (showX false x) 0).toks = T := by rw [hsc]; rfl
  rw [ht]
  have hlen : T.length = (toksX false x).length := by rw [← hT, List.length_map]
  have hF : From T 0 (toksX false x) := by unfold From; rw [List.drop_zero, hT]
  have key : ∃ x' f, bareX x' = bareX x ∧ chainF T f 1 0 0 = some (.ok x' (0 + (toksX false x).length)) := by
    cases x with
    | leaf a =>
      obtain ⟨x', f, h1, h2⟩ := single_shown (.leaf a) T 0 0 [] h (by rw [List.append_nil]; exact hF) (by omega)
      have hF2 : From T (0 + (toksX true (.leaf a)).length) [] := by
        have := From.app (S := toksX true (.leaf a)) (T := []) (by rw [List.append_nil]; exact hF); exact this
      obtain ⟨f', hf'⟩ := chain_lift h2 5 1 (by omega) (by omega) (fun c _ _ => no_sign_end hF2)
      exact ⟨x', f', h1, hf'⟩
    | un a y =>
      obtain ⟨x', f, h1, h2⟩ := single_shown (.un a y) T 0 0 [] h (by rw [List.append_nil]; exact hF) (by omega)
      have hF2 : From T (0 + (toksX true (.un a y)).length) [] := by
        have := From.app (S := toksX true (.un a y)) (T := []) (by rw [List.append_nil]; exact hF); exact this
      obtain ⟨f', hf'⟩ := chain_lift h2 5 1 (by omega) (by omega) (fun c _ _ => no_sign_end hF2)
      exact ⟨x', f', h1, hf'⟩
    | bin a y z =>
      have hn : nodOK a = true := good_top h
      obtain ⟨gx, gy⟩ := good_bin h
      have hop := takes_op h.1.1
      obtain ⟨k, hk⟩ : ∃ k : Nat, a.op = k := ⟨a.op.toNat, by omega⟩
      have hk2 : takesN (k : Int) = some 2 := by rw [← hk]; exact h.1.1
      have hkn : a.op.toNat = k := by omega
      have e : toksX false (.bin a y z) = toksX true y ++ signTok k :: toksX true z := by simp [toksX, hkn]
      have hF1 : From T 0 (toksX true y ++ (signTok k :: (toksX true z ++ []))) := by rw [e] at hF; simpa using hF
      simp only [Ex.deep] at hd
      obtain ⟨y', f, hy', hf⟩ := single_shown y T 0 0 _ gx hF1 (by omega)
      have hF2 := hF1.app
      obtain ⟨t2, _, _, hF3⟩ := From.head hF2
      obtain ⟨z', g, hz', hg⟩ := single_shown z T (0 + (toksX true y).length + 1) 0 _ gy hF3 (by omega)
      have hF4 := hF3.app
      obtain ⟨f', hf'⟩ := bin_read hk2 hf hF2 hg (fun c _ => no_sign_end hF4)
      refine ⟨.bin ⟨k, 0, [], plAt T (0 + (toksX true y).length)⟩ y' z', f', ?_, ?_⟩
      · simp only [bareX]
        rw [hy', hz', bare_sign hk (sign_nod hn (by
          intro e1; rw [e1] at hk; have : k = 1 := by omega
          subst this; exact absurd hk2 (by decide)) (by
          intro e1; rw [e1] at hk; have : k = 2 := by omega
          subst this; exact absurd hk2 (by decide)))]
      · rw [hf', e]
        congr 2
        simp only [List.length_append, List.length_cons]; omega
  obtain ⟨x', f, hx', hf⟩ := key
  have hd' : x'.deep = x.deep := by rw [← deep_bare x', hx', deep_bare]
  have hs' : x'.size = x.size := by rw [← size_bare x', hx', size_bare]
  have hfl : x'.flat.map bareN = x.flat.map bareN := by rw [← flat_bare, hx', flat_bare]
  have hp : parseR T 0 = .ok x' T.length := by
    have := parseR_of hf
    rw [this, hlen, Nat.zero_add]
  have hok : x'.ok := by
    have := parseR_fine T 0
    rw [hp] at this
    exact this.2.2.1
  refine ⟨x', hok, hd', hs', ?_, same_bare hfl.symm, same_bare hfl⟩
  have := exprV_nat T 0
  rw [show exprV T 0 = exprV T ((0 : Nat) : Int) from rfl, this, hp, exprR_ok (by omega) (by omega)]

/-! ### Of a text's tokens. -/
theorem places_mem {l : List UInt8} : ∀ {L : List Tok} {e : Nat}, PlacesOK l e L → ∀ t ∈ L, t.pl + t.text.length ≤ l.length ∧ 0 ≤ t.n ∧ t.n ≤ 4294967296
  | [], _, _, t, h => by simp at h
  | a :: L, e, hp, t, h => by
    obtain ⟨h1, h2, h3, h4, h5, h6, h7, h8, h9⟩ := hp
    rcases List.mem_cons.1 h with rfl | h
    · exact ⟨h3, h7, h8⟩
    · exact places_mem h9 t h
theorem places_count {l : List UInt8} : ∀ {L : List Tok} {e : Nat}, e ≤ l.length → PlacesOK l e L → L.length + e ≤ l.length
  | [], e, he, _ => by simpa using he
  | a :: L, e, he, hp => by
    obtain ⟨h1, h2, h3, h4, h5, h6, h7, h8, h9⟩ := hp
    have := places_count h3 h9
    simp only [List.length_cons]; omega
theorem scan_facts (l : List UInt8) : (scanL l 0).toks.length ≤ l.length ∧ ∀ t ∈ (scanL l 0).toks, t.pl + t.text.length ≤ l.length ∧ 0 ≤ t.n ∧ t.n ≤ 4294967296 := by
  have h := places_pure l l 0 (Nat.zero_le _) rfl
  exact ⟨by have := places_count (Nat.zero_le _) h; omega, places_mem h⟩
theorem place_le {L : List Tok} {n : Nat} (h : ∀ t ∈ L, t.pl + t.text.length ≤ n) (i : Int) : 0 ≤ placeV L i ∧ placeV L i ≤ n := by
  by_cases hi : 0 ≤ i ∧ i < L.length
  · obtain ⟨k, rfl⟩ : ∃ k : Nat, i = k := ⟨i.toNat, by omega⟩
    have hk : k < L.length := by omega
    rw [place_in (List.getElem?_eq_getElem hk)]
    have := h _ (List.getElem_mem hk)
    omega
  · by_cases h0 : L = []
    · subst h0; rw [place_nil]; omega
    · have hp : 0 < L.length := List.length_pos_iff.2 h0
      rw [place_out hi (List.getElem?_eq_getElem (show L.length - 1 < L.length by omega))]
      have := h _ (List.getElem_mem (show L.length - 1 < L.length by omega))
      omega
theorem scan_small {l : List UInt8} (h : l.length ≤ 4000) : SmallT (scanL l 0).toks := by
  intro t ht
  have := (scan_facts l).2 t ht
  omega
theorem nod_of {L : List Tok} {n : Nat} (hn : n ≤ 4000) (h : ∀ t ∈ L, t.pl + t.text.length ≤ n ∧ 0 ≤ t.n ∧ t.n ≤ 4294967296) {a : Nod} (ha : NodOf L a) : nodOK a = true := by
  obtain ⟨t, ht, hpl, hc⟩ := ha
  have := h t ht
  unfold nodOK
  rw [hpl]
  rcases hc with ⟨_, h1, h2, h3⟩ | ⟨_, hnm, h1, h2, h3⟩ | ⟨h1, h2, h3, h4⟩
  · rw [if_pos h1, h2, h3]; simp; omega
  · rw [if_neg (by omega), if_pos h1, h2, h3, hnm]; simp; omega
  · rw [if_neg (by omega), if_neg (by omega), h3, h4]; simp; omega
/-- What is read of a text. -/
theorem back_pure (l : List UInt8) (hl : l.length ≤ 600) : ((exprV (scanL l 0).toks 0).err ≠ 0 ∧ (exprV (scanL l 0).toks 0).nodes = [] ∧ (exprV (scanL l 0).toks 0).to = 0 ∧ 0 ≤ (exprV (scanL l 0).toks 0).pl ∧ (exprV (scanL l 0).toks 0).pl ≤ l.length) ∨
    (∃ x : Ex, GoodX x ∧ x.deep ≤ 12 ∧ x.size ≤ 40 ∧ rightL x.flat = true ∧ ∃ to : Nat, exprV (scanL l 0).toks 0 = ⟨x.flat, to, 0, 0⟩ ∧ 1 ≤ to ∧ to ≤ (scanL l 0).toks.length) := by
  obtain ⟨h1, h2⟩ := scan_facts l
  generalize (scanL l 0).toks = L at *
  have hpl := place_le (n := l.length) (fun t ht => (h2 t ht).1)
  have hf := parseR_fine L 0
  have he := exprV_nat L 0
  rw [show exprV L 0 = exprV L ((0 : Nat) : Int) from rfl, he]
  cases hp : parseR L 0 with
  | bad e j =>
    rw [hp] at hf
    obtain ⟨h3, _⟩ := hf
    exact .inl ⟨by show e ≠ 0; omega, rfl, rfl, (hpl j).1, (hpl j).2⟩
  | ok x to =>
    rw [hp] at hf
    obtain ⟨g1, g2, g3, g4, g5⟩ := hf
    by_cases hd : 12 < x.deep
    · rw [exprR_deep hd]
      exact .inl ⟨by show (7 : Int) ≠ 0; decide, rfl, rfl, (hpl _).1, (hpl _).2⟩
    · by_cases hs : 40 < x.size
      · rw [exprR_big hd hs]
        exact .inl ⟨by show (2 : Int) ≠ 0; decide, rfl, rfl, (hpl _).1, (hpl _).2⟩
      · rw [exprR_ok hd hs]
        have hall : x.flat.all nodOK = true := List.all_eq_true.2 fun a ha => nod_of (n := l.length) (by omega) h2 (g5 a ha)
        refine .inr ⟨x, ⟨g3, hall⟩, by omega, by omega, ?_, to, rfl, by omega, g2⟩
        rw [right_flat g3, hall]
        simp; omega
theorem good_right {L : List Nod} (h : rightL L = true) : ∃ x : Ex, L = x.flat ∧ GoodX x ∧ x.deep ≤ 12 ∧ x.size ≤ 40 ∧ shownL L = showX false x ∧ depthL L = x.deep := by
  obtain ⟨x, hw, ho, rfl, h40, hall, hd⟩ := right_some h
  refine ⟨x, rfl, ⟨ho, hall⟩, hd, by rw [← flat_len]; exact h40, ?_, ?_⟩
  · unfold shownL; rw [hw]; simp [h]
  · unfold depthL; rw [hw]; simp [h]
theorem shown_len {x : Ex} (h : GoodX x) (hs : x.size ≤ 40) : (showX false x).length ≤ 840 := by
  have := show_len x false (small_all h.2)
  omega
theorem right_same {x x' : Ex} (ho : x'.ok) (hd : x.deep ≤ 12) (hs : x.size ≤ 40) (hdd : x'.deep = x.deep) (hss : x'.size = x.size) (hg : x'.flat.all nodOK = true) : depthL x'.flat = x.deep := by
  have : rightL x'.flat = true := by rw [right_flat ho, hg]; simp; omega
  unfold depthL; rw [whole_flat ho]; simp [this, hdd]
end Go.Proofs.YtpeohfgadnfnpaaGreatDoor
/-
  DERIVED. Layer 4: how statements are read of tokens, token by token; nothing of the program in it.
-/
namespace Go.Proofs.YtpeohfgadnfnpaaGreatDoor
open Go

/-- What is read, and the place behind it; or an error and a place. -/
inductive RS (α : Type) where
  | ok (a : α) (to : Nat)
  | bad (e pl : Int)
def RS.bind {α β : Type} : RS α → (α → Nat → RS β) → RS β
  | .ok a to, k => k a to
  | .bad e p, _ => .bad e p
@[simp] theorem RS.bind_ok {α β : Type} (a : α) (to : Nat) (k : α → Nat → RS β) : (RS.ok a to).bind k = k a to := rfl
@[simp] theorem RS.bind_bad {α β : Type} (e p : Int) (k : α → Nat → RS β) : (RS.bad e p : RS α).bind k = .bad e p := rfl
def badR {α : Type} (L : List Tok) (i : Nat) (e : Int) : RS α := .bad (if i < L.length then e else 6) (placeV L i)
def mustP (L : List Tok) (i : Nat) (s : List UInt8) : RS Unit := if isB L i s = true then .ok () (i + 1) else badR L i 5
def nameAt (L : List Tok) (i : Nat) : Option (List UInt8) := match L[i]? with
  | some t => if t.kind = 1 ∧ nameB t.text = true then some t.text else none
  | none => none
def nameP (L : List Tok) (i : Nat) : RS (List UInt8) := match nameAt L i with
  | some s => .ok s (i + 1)
  | none => badR L i 5
def exprP (L : List Tok) (i : Nat) : RS (List Nod) := if (exprV L i).err = 0 then .ok (exprV L i).nodes (exprV L i).to.toNat else .bad (exprV L i).err (exprV L i).pl
def timesP (L : List Tok) (i : Nat) : RS Int := match L[i]? with
  | some t => if t.kind = 2 then (if 1 ≤ t.n ∧ t.n ≤ 8 then .ok t.n (i + 1) else badR L i 11) else badR L i 5
  | none => badR L i 5
/-- The statement's kind that begins at a place. -/
def kindAt (L : List Tok) (i : Nat) : Nat := ((List.range 15).find? (fun k => decide (2 ≤ k) && isB L i (kwTab.getD k []))).getD 1
def stm0 (k : Int) (pl : Int) : Stm := ⟨k, [], [], [], [], 0, 0, 0, pl⟩
/-- A statement from behind its word on, without its blocks and its end. -/
def plainP (L : List Tok) (k : Nat) (pl : Int) (i : Nat) : RS Stm :=
  if k = 1 then (nameP L i).bind fun r j => (mustP L j [61]).bind fun _ j => (exprP L j).bind fun e j => .ok { stm0 k pl with reg := r, e := e } j
  else if k = 2 then (nameP L i).bind fun r j => (mustP L j [61]).bind fun _ j => (nameP L j).bind fun n j => .ok { stm0 k pl with reg := r, name := n } j
  else if k = 3 then (nameP L i).bind fun n j => (mustP L j [61]).bind fun _ j => (exprP L j).bind fun e j => .ok { stm0 k pl with name := n, e := e } j
  else if k = 4 then (nameP L i).bind fun r j => (mustP L j [61]).bind fun _ j => (nameP L j).bind fun n j => (mustP L j [44]).bind fun _ j => (exprP L j).bind fun e j => (mustP L j [44]).bind fun _ j => (exprP L j).bind fun f j => .ok { stm0 k pl with reg := r, name := n, e := e, f := f } j
  else if k = 5 ∨ k = 6 ∨ k = 9 ∨ k = 10 then (nameP L i).bind fun n j => .ok { stm0 k pl with name := n } j
  else if k = 11 ∨ k = 14 then (exprP L i).bind fun e j => .ok { stm0 k pl with e := e } j
  else if k = 12 then (timesP L i).bind fun n j => .ok { stm0 k pl with n := n } j
  else .ok (stm0 k pl) i

def RS.obind {α β : Type} : Option (RS α) → (α → Nat → Option (RS β)) → Option (RS β)
  | some (.ok a to), k => k a to
  | some (.bad e p), _ => some (.bad e p)
  | none, _ => none
@[simp] theorem RS.obind_ok {α β : Type} (a : α) (to : Nat) (k : α → Nat → Option (RS β)) : RS.obind (some (RS.ok a to)) k = k a to := rfl
@[simp] theorem RS.obind_bad {α β : Type} (e p : Int) (k : α → Nat → Option (RS β)) : RS.obind (some (RS.bad e p : RS α)) k = some (.bad e p) := rfl
@[simp] theorem RS.obind_none {α β : Type} (k : α → Nat → Option (RS β)) : RS.obind (none : Option (RS α)) k = none := rfl
theorem RS.obind_some {α β : Type} {o : Option (RS α)} {k : α → Nat → Option (RS β)} {r : RS β} (h : RS.obind o k = some r) : (∃ a to, o = some (.ok a to) ∧ k a to = some r) ∨ (∃ e p, o = some (.bad e p) ∧ r = .bad e p) := by
  rcases o with _ | ⟨a, to⟩ | ⟨e, p⟩
  · cases h
  · exact .inl ⟨a, to, rfl, h⟩
  · exact .inr ⟨e, p, rfl, by simpa using h.symm⟩
abbrev Rows4 := Nat → Nat → Nat → Option (RS Bk)
/-- A block, by how the rows within are read. -/
def blockW (row : Rows4) (L : List Tok) (i d l : Nat) : Option (RS Bk) :=
  if 12 < d ∧ isB L i [123] = true then some (badR L i 7)
  else RS.obind (some (mustP L i [123])) fun _ j => RS.obind (row j d l) fun b j => RS.obind (some (mustP L j [125])) fun _ j => some (.ok b j)
structure One where
  s : Stm
  b : Bk
  e : Bk
/-- An else, if there is one. -/
def elseW4 (row : Rows4) (L : List Tok) (k : Nat) (i d l : Nat) : Option (RS Bk) :=
  if k = 11 ∧ isB L i elseW = true then blockW row L (i + 1) d l else some (.ok .nil i)
def inL (k l : Nat) : Nat := if k = 12 then l + 1 else l
def oneW (row : Rows4) (L : List Tok) (i d l : Nat) : Option (RS One) :=
  if kindAt L i = 13 ∧ l = 0 then some (badR L i 5)
  else RS.obind (some (plainP L (kindAt L i) (placeV L i) (if kindAt L i = 1 then i else i + 1))) fun s j =>
    if ¬ blkK (kindAt L i : Nat) then RS.obind (some (mustP L j [59])) fun _ j => some (.ok ⟨s, .nil, .nil⟩ j)
    else RS.obind (blockW row L j (d + 1) (inL (kindAt L i) l)) fun b j => RS.obind (elseW4 row L (kindAt L i) j (d + 1) (inL (kindAt L i) l)) fun e j => some (.ok ⟨{ s with body := b.count, els := e.count }, b, e⟩ j)
def rowF (L : List Tok) : Nat → Rows4
  | 0 => fun _ _ _ => none
  | f + 1 => fun i d l => if isB L i [125] = true then some (.ok .nil i)
    else RS.obind (oneW (rowF L f) L i d l) fun o j => RS.obind (rowF L f j d l) fun r j => some (.ok (.cons o.s o.b o.e r) j)

/-! ### Where what is read ends. -/
def Ahead {α : Type} (L : List Tok) (i : Nat) (r : RS α) : Prop := match r with
  | .ok _ to => i < to ∧ to ≤ L.length
  | .bad e _ => e ≠ 0
def AheadE {α : Type} (L : List Tok) (i : Nat) (r : RS α) : Prop := match r with
  | .ok _ to => i ≤ to ∧ to ≤ L.length
  | .bad e _ => e ≠ 0
theorem Ahead.le {α : Type} {L : List Tok} {i : Nat} {r : RS α} (h : Ahead L i r) : AheadE L i r := by
  cases r with
  | ok a to => exact ⟨by have := h.1; omega, h.2⟩
  | bad e p => exact h
theorem bad_ahead {α : Type} {L : List Tok} {i j : Nat} {e : Int} (he : e ≠ 0) : Ahead L j (badR L i e : RS α) := by
  unfold badR Ahead; simp only; split <;> omega
theorem must_ahead (L : List Tok) (i : Nat) (s : List UInt8) : Ahead L i (mustP L i s) := by
  unfold mustP
  split
  · rename_i h; have := isB_lt h; exact ⟨by omega, by omega⟩
  · exact bad_ahead (by omega)
theorem nameAt_lt {L : List Tok} {i : Nat} {s : List UInt8} (h : nameAt L i = some s) : i < L.length ∧ nameB s = true := by
  unfold nameAt at h
  split at h
  · rename_i t ht
    split at h
    · rename_i hc
      simp at h; subst h
      exact ⟨(List.getElem?_eq_some_iff.1 ht).1, hc.2⟩
    · cases h
  · cases h
theorem name_ahead (L : List Tok) (i : Nat) : Ahead L i (nameP L i) := by
  unfold nameP
  split
  · rename_i h; have := (nameAt_lt h).1; exact ⟨by omega, by omega⟩
  · exact bad_ahead (by omega)
theorem times_ahead (L : List Tok) (i : Nat) : Ahead L i (timesP L i) := by
  unfold timesP
  split
  · rename_i t ht
    have hi := (List.getElem?_eq_some_iff.1 ht).1
    split
    · split
      · exact ⟨by omega, by omega⟩
      · exact bad_ahead (by omega)
    · exact bad_ahead (by omega)
  · exact bad_ahead (by omega)
/-- What exprV tells of a place. -/
theorem expr_cases (L : List Tok) (i : Nat) : ((exprV L i).err ≠ 0 ∧ (exprV L i).nodes = [] ∧ (exprV L i).to = 0) ∨
    (∃ x : Ex, x.ok ∧ x.deep ≤ 12 ∧ x.size ≤ 40 ∧ (∀ a ∈ x.flat, NodOf L a) ∧ ∃ to : Nat, exprV L i = ⟨x.flat, to, 0, 0⟩ ∧ i < to ∧ to ≤ L.length) := by
  have hf := parseR_fine L i
  rw [exprV_nat]
  cases hp : parseR L i with
  | bad e j =>
    rw [hp] at hf
    obtain ⟨h3, _⟩ := hf
    exact .inl ⟨by show e ≠ 0; omega, rfl, rfl⟩
  | ok x to =>
    rw [hp] at hf
    obtain ⟨g1, g2, g3, g4, g5⟩ := hf
    by_cases hd : 12 < x.deep
    · rw [exprR_deep hd]; exact .inl ⟨by show (7 : Int) ≠ 0; decide, rfl, rfl⟩
    · by_cases hs : 40 < x.size
      · rw [exprR_big hd hs]; exact .inl ⟨by show (2 : Int) ≠ 0; decide, rfl, rfl⟩
      · rw [exprR_ok hd hs]; exact .inr ⟨x, g3, by omega, by omega, g5, to, rfl, by omega, g2⟩
theorem expr_ahead (L : List Tok) (i : Nat) : Ahead L i (exprP L i) := by
  unfold exprP
  rcases expr_cases L i with ⟨h, _⟩ | ⟨x, _, _, _, _, to, h, h1, h2⟩
  · rw [if_neg h]; exact h
  · rw [h]; exact ⟨by simpa using h1, by simpa using h2⟩
theorem bind_ahead {α β : Type} {L : List Tok} {i : Nat} {r : RS α} {k : α → Nat → RS β} (h : Ahead L i r) (hk : ∀ a j, r = .ok a j → AheadE L j (k a j)) : Ahead L i (r.bind k) := by
  cases r with
  | bad e p => exact h
  | ok a j =>
    have := hk a j rfl
    have h1 := h.1
    simp only [RS.bind_ok]
    cases hr : k a j with
    | ok b to => rw [hr] at this; exact ⟨by have := this.1; omega, this.2⟩
    | bad e p => rw [hr] at this; exact this
theorem ok_ahead {α : Type} {L : List Tok} {j : Nat} (a : α) (h : j ≤ L.length) : AheadE L j (RS.ok a j) := ⟨Nat.le_refl _, h⟩
theorem Ahead.to {α : Type} {L : List Tok} {i j : Nat} {a : α} {r : RS α} (h : Ahead L i r) (e : r = .ok a j) : j ≤ L.length := by subst e; exact h.2
theorem plain_ahead (L : List Tok) (k : Nat) (pl : Int) (i : Nat) (hi : i ≤ L.length) : AheadE L i (plainP L k pl i) := by
  unfold plainP
  repeat' split
  · exact (bind_ahead (name_ahead L i) fun r j _ => (bind_ahead (must_ahead L j _) fun _ j _ => (bind_ahead (expr_ahead L j) fun e j he => ok_ahead _ ((expr_ahead L _).to he)).le).le).le
  · exact (bind_ahead (name_ahead L i) fun r j _ => (bind_ahead (must_ahead L j _) fun _ j _ => (bind_ahead (name_ahead L j) fun e j he => ok_ahead _ ((name_ahead L _).to he)).le).le).le
  · exact (bind_ahead (name_ahead L i) fun r j _ => (bind_ahead (must_ahead L j _) fun _ j _ => (bind_ahead (expr_ahead L j) fun e j he => ok_ahead _ ((expr_ahead L _).to he)).le).le).le
  · exact (bind_ahead (name_ahead L i) fun r j _ => (bind_ahead (must_ahead L j _) fun _ j _ => (bind_ahead (name_ahead L j) fun e j _ => (bind_ahead (must_ahead L j _) fun _ j _ => (bind_ahead (expr_ahead L j) fun e j _ => (bind_ahead (must_ahead L j _) fun _ j _ => (bind_ahead (expr_ahead L j) fun e j he => ok_ahead _ ((expr_ahead L _).to he)).le).le).le).le).le).le).le
  · exact (bind_ahead (name_ahead L i) fun r j he => ok_ahead _ ((name_ahead L _).to he)).le
  · exact (bind_ahead (expr_ahead L i) fun r j he => ok_ahead _ ((expr_ahead L _).to he)).le
  · exact (bind_ahead (times_ahead L i) fun r j he => ok_ahead _ ((times_ahead L _).to he)).le
  · exact ok_ahead _ hi
theorem kind_spec (L : List Tok) (i : Nat) : kindAt L i = 1 ∨ (2 ≤ kindAt L i ∧ kindAt L i ≤ 14 ∧ isB L i (kwTab.getD (kindAt L i) []) = true) := by
  unfold kindAt
  cases h : (List.range 15).find? (fun k => decide (2 ≤ k) && isB L i (kwTab.getD k [])) with
  | none => exact .inl rfl
  | some k =>
    have h1 := List.find?_some h
    have h2 := List.mem_of_find?_eq_some h
    simp only [Bool.and_eq_true, decide_eq_true_eq] at h1
    rw [List.mem_range] at h2
    exact .inr ⟨h1.1, by show k ≤ 14; omega, h1.2⟩
theorem kind_range (L : List Tok) (i : Nat) : 1 ≤ kindAt L i ∧ kindAt L i ≤ 14 := by
  rcases kind_spec L i with h | ⟨h1, h2, _⟩ <;> omega
theorem begin_le {L : List Tok} {i : Nat} (hi : i ≤ L.length) : (if kindAt L i = 1 then i else i + 1) ≤ L.length := by
  rcases kind_spec L i with h | ⟨h1, h2, h3⟩
  · rw [if_pos h]; exact hi
  · rw [if_neg (by omega)]; exact isB_lt h3
end Go.Proofs.YtpeohfgadnfnpaaGreatDoor
