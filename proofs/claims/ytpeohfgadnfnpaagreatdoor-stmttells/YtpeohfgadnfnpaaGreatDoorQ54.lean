/-
  DERIVED. Texts of the walk, packed: StScan, StBack.
-/
import Derived.Test.YtpeohfgadnfnpaaGreatDoorQ18
/-
  DERIVED. Layer 4: the tokens of what is shown of statements; nothing of the program in it.
-/
namespace Go.Proofs.YtpeohfgadnfnpaaGreatDoor
open Go

/-- A text has these tokens, but for places, whatever comes behind; or if what comes behind ends a token. -/
def ScA (l : List UInt8) (T : List Tok) : Prop := ∀ r a, ∃ T', T'.map Tok.bare = T ∧ scanL (l ++ r) a = (scanL r (a + l.length)).pre T'
def Sc (l : List UInt8) (T : List Tok) : Prop := ∀ r a, Stops r → ∃ T', T'.map Tok.bare = T ∧ scanL (l ++ r) a = (scanL r (a + l.length)).pre T'
def Stopper (m : List UInt8) : Prop := ∀ r, Stops (m ++ r)
theorem stopper_cons {c : UInt8} {m : List UInt8} (h : c = 32 ∨ c = 41 ∨ c = 44 ∨ c = 59) : Stopper (c :: m) := by
  intro r
  rcases h with rfl | rfl | rfl | rfl
  · exact .inr (.inl ⟨_, rfl⟩)
  · exact .inr (.inr (.inl ⟨_, rfl⟩))
  · exact .inr (.inr (.inr (.inl ⟨_, rfl⟩)))
  · exact .inr (.inr (.inr (.inr ⟨_, rfl⟩)))
theorem join_sc {l m : List UInt8} {T S : List Tok} {r : List UInt8} {a : Nat} (h1 : ∃ T', T'.map Tok.bare = T ∧ scanL (l ++ (m ++ r)) a = (scanL (m ++ r) (a + l.length)).pre T') (h2 : ∃ T', T'.map Tok.bare = S ∧ scanL (m ++ r) (a + l.length) = (scanL r (a + l.length + m.length)).pre T') :
    ∃ T', T'.map Tok.bare = T ++ S ∧ scanL ((l ++ m) ++ r) a = (scanL r (a + (l ++ m).length)).pre T' := by
  obtain ⟨T1, e1, s1⟩ := h1
  obtain ⟨T2, e2, s2⟩ := h2
  refine ⟨T1 ++ T2, by rw [List.map_append, e1, e2], ?_⟩
  rw [List.append_assoc, s1, s2, pre_pre, List.length_append, Nat.add_assoc]
theorem ScA.app {l m : List UInt8} {T S : List Tok} (h1 : ScA l T) (h2 : ScA m S) : ScA (l ++ m) (T ++ S) := fun _ _ => join_sc (h1 _ _) (h2 _ _)
theorem ScA.appS {l m : List UInt8} {T S : List Tok} (h1 : ScA l T) (h2 : Sc m S) : Sc (l ++ m) (T ++ S) := fun _ _ hr => join_sc (h1 _ _) (h2 _ _ hr)
theorem Sc.app {l m : List UInt8} {T S : List Tok} (h1 : Sc l T) (h2 : ScA m S) (hm : Stopper m) : ScA (l ++ m) (T ++ S) := fun r _ => join_sc (h1 _ _ (hm r)) (h2 _ _)
theorem Sc.appS {l m : List UInt8} {T S : List Tok} (h1 : Sc l T) (h2 : Sc m S) (hm : Stopper m) : Sc (l ++ m) (T ++ S) := fun r _ hr => join_sc (h1 _ _ (hm r)) (h2 _ _ hr)
theorem ScA.sc {l : List UInt8} {T : List Tok} (h : ScA l T) : Sc l T := fun r a _ => h r a
theorem sc_nil : ScA [] [] := fun r a => ⟨[], rfl, by rw [List.nil_append, pre_nil _ (scanL_form _ _).1 (scanL_form _ _).2]; rfl⟩
theorem sc_blank {p : List UInt8} (h : p.all blkB = true) : ScA p [] := fun r a => ⟨[], rfl, by rw [scan_blanks p r a h, pre_nil _ (scanL_form _ _).1 (scanL_form _ _).2]⟩
def sg (c : UInt8) : Tok := ⟨3, [c], 0, 0⟩
def wd (s : List UInt8) : Tok := ⟨1, s, 0, 0⟩
theorem sc_sign {c : UInt8} (hc : c = 123 ∨ c = 125 ∨ c = 59 ∨ c = 44) : ScA [c] [sg c] := by
  intro r a
  have hcut : cutOf (c :: r) = ⟨0, 3, [c], 0⟩ := by
    have hl : letB c = false := by rcases hc with rfl | rfl | rfl | rfl <;> decide
    have hd : digB c = false := by rcases hc with rfl | rfl | rfl | rfl <;> decide
    rw [cutOf_sign r hl hd]
    unfold signCut
    have : signOf (c :: r) = some [c] := by
      unfold signOf signTab
      rcases hc with rfl | rfl | rfl | rfl <;> simp [List.isPrefixOf]
    rw [this]
  have hb : blkB c = false := by rcases hc with rfl | rfl | rfl | rfl <;> decide
  have h2 : isRem (c :: r) = false := rem_no (by rcases hc with rfl | rfl | rfl | rfl <;> decide) _
  exact ⟨[⟨3, [c], 0, a⟩], rfl, scan_one (c := c) (m := []) (r := r) (k := 3) (n := 0) a hb h2 hcut⟩
theorem sc_eq : ScA [61, 32] [sg 61] := by
  intro r a
  have hcut : cutOf (61 :: 32 :: r) = ⟨0, 3, [61], 0⟩ := by
    rw [cutOf_sign _ (by decide) (by decide)]
    unfold signCut
    have : signOf (61 :: 32 :: r) = some [61] := by
      unfold signOf signTab
      simp [List.isPrefixOf]
    rw [this]
  have h2 : isRem (61 :: 32 :: r) = false := rem_no (by decide) _
  refine ⟨[⟨3, [61], 0, a⟩], rfl, ?_⟩
  have := scan_one (c := 61) (m := []) (r := 32 :: r) (k := 3) (n := 0) a (by decide) h2 hcut
  show scanL (61 :: 32 :: r) a = _
  rw [show (61 :: 32 :: r : List UInt8) = [61] ++ 32 :: r from rfl, this, scanL_blank _ _ (by decide)]
  rfl
theorem sc_word {l : List UInt8} (h : wordB l = true) : Sc l [wd l] := by
  intro r a hr
  cases l with
  | nil => exact absurd h (by decide)
  | cons c m =>
    unfold wordB at h
    simp only [Bool.and_eq_true, decide_eq_true_eq] at h
    obtain ⟨⟨⟨_, h1⟩, h2⟩, h3⟩ := h
    have hc : letB c = true := by simpa using h2
    have hcc : c.toNat = 95 ∨ (97 ≤ c.toNat ∧ c.toNat ≤ 122) := by unfold letB at hc; simp at hc; omega
    have hb : blkB c = false := by unfold blkB; simp; omega
    refine ⟨[⟨1, c :: m, 0, a⟩], rfl, scan_one a hb (rem_no (fun e => by subst e; simp at hcc) _) ?_⟩
    rw [List.cons_append, cutOf_word _ hc, ← List.cons_append]
    unfold wordCut
    rw [stop_while (by decide) (by decide) (by decide) (by decide) hr (c :: m) h3, if_neg (by omega)]
theorem name_word {l : List UInt8} (h : nameB l = true) : wordB l = true := by
  rw [← name_or_kept, h]; rfl
theorem sc_name {l : List UInt8} (h : nameB l = true) : Sc l [wd l] := sc_word (name_word h)
theorem sc_num {n : Int} (h0 : 0 ≤ n) (h1 : n ≤ 4294967296) : Sc (Lib.itoa n) [⟨2, Lib.itoa n, n, 0⟩] := by
  intro r a hr
  obtain ⟨u, rfl⟩ : ∃ u : Nat, n = u := ⟨n.toNat, by omega⟩
  rw [Lib.itoa_nonneg]
  exact ⟨_, rfl, scan_num a (by omega) hr⟩
/-- The tokens of an expression. -/
def toksE (l : List Nod) : List Tok := match wholeT l with
  | some x => toksX false x
  | none => []
theorem sc_expr {l : List Nod} (h : rightL l = true) : Sc (shownL l) (toksE l) := by
  obtain ⟨x, rfl, h1, h2, h3, h4, h5⟩ := good_right h
  rw [h4]
  unfold toksE
  rw [whole_flat h1.1]
  exact fun r a hr => scan_shown x false r a h1 hr

/-! ### A statement's first line. -/
def toksH (x : Stm) : List Tok :=
  if x.kind = 1 then [wd x.reg] ++ ([sg 61] ++ toksE x.e)
  else if x.kind = 2 then [wd (kwL 2)] ++ ([wd x.reg] ++ ([sg 61] ++ [wd x.name]))
  else if x.kind = 3 then [wd (kwL 3)] ++ ([wd x.name] ++ ([sg 61] ++ toksE x.e))
  else if x.kind = 4 then [wd (kwL 4)] ++ ([wd x.reg] ++ ([sg 61] ++ ([wd x.name] ++ ([sg 44] ++ (toksE x.e ++ ([sg 44] ++ toksE x.f))))))
  else if x.kind = 11 ∨ x.kind = 14 then [wd (kwL x.kind)] ++ toksE x.e
  else if x.kind = 12 then [wd (kwL 12)] ++ [⟨2, Lib.itoa x.n, x.n, 0⟩]
  else if x.kind = 7 ∨ x.kind = 8 ∨ x.kind = 13 then [wd (kwL x.kind)]
  else [wd (kwL x.kind)] ++ [wd x.name]
theorem kw_word : ∀ k : Fin 15, 2 ≤ k.1 → wordB (kwTab.getD k.1 []) = true := by decide
theorem sc_kw {k : Nat} (h1 : 2 ≤ k) (h2 : k ≤ 14) : Sc (kwL (k : Nat)) [wd (kwL (k : Nat))] := by
  have := kw_word ⟨k, by omega⟩ h1
  simp only at this
  unfold kwL
  rw [Int.toNat_natCast]
  exact sc_word this
theorem sc_eqs : ScA [32, 61, 32] [sg 61] := (sc_blank (p := [32]) (by decide)).app sc_eq
theorem sc_comma : ScA [44, 32] [sg 44] := by
  have := (sc_sign (c := 44) (by simp)).app (sc_blank (p := [32]) (by decide))
  exact this
theorem sc_sp {l : List UInt8} {T : List Tok} (h : Sc l T) : Sc (32 :: l) T := (sc_blank (p := [32]) (by decide)).appS h
theorem st32 (m : List UInt8) : Stopper (32 :: m) := stopper_cons (.inl rfl)
theorem st44 (m : List UInt8) : Stopper (44 :: m) := stopper_cons (.inr (.inr (.inl rfl)))
theorem st59 (m : List UInt8) : Stopper (59 :: m) := stopper_cons (.inr (.inr (.inr rfl)))
theorem sc_head {x : Stm} (h : fitS x = true) : Sc (headS x) (toksH x) := by
  obtain ⟨k, hk, h1, h2⟩ := fit_kind h
  obtain ⟨_, _, _, hr, hn, he, hf, ht⟩ := fit_inv hk h
  unfold headS toksH
  rw [hk]
  have hkk : k = 1 ∨ k = 2 ∨ k = 3 ∨ k = 4 ∨ (k = 11 ∨ k = 14) ∨ k = 12 ∨ (k = 7 ∨ k = 8 ∨ k = 13) ∨ (k = 5 ∨ k = 6 ∨ k = 9 ∨ k = 10) := by omega
  rcases hkk with rfl | rfl | rfl | rfl | h | rfl | h | h
  · exact (sc_name hr).appS (sc_eqs.appS (sc_expr he)) (st32 _)
  · exact (sc_kw (k := 2) (by omega) (by omega)).appS (sc_sp ((sc_name hr).appS (sc_eqs.appS (sc_name hn)) (st32 _))) (st32 _)
  · exact (sc_kw (k := 3) (by omega) (by omega)).appS (sc_sp ((sc_name hn).appS (sc_eqs.appS (sc_expr he)) (st32 _))) (st32 _)
  · exact (sc_kw (k := 4) (by omega) (by omega)).appS (sc_sp ((sc_name hr).appS (sc_eqs.appS ((sc_name hn).appS (sc_comma.appS ((sc_expr he).appS (sc_comma.appS (sc_expr hf)) (st44 _))) (st44 _))) (st32 _))) (st32 _)
  · rw [if_neg (by omega), if_neg (by omega), if_neg (by omega), if_neg (by omega), if_pos (by omega), if_neg (by omega), if_neg (by omega), if_neg (by omega), if_neg (by omega), if_pos (by omega)]
    rw [if_pos (by omega)] at he
    exact (sc_kw (by omega) h2).appS (sc_sp (sc_expr he)) (st32 _)
  · have ht' : 1 ≤ x.n ∧ x.n ≤ 8 := by simpa using ht
    exact (sc_kw (k := 12) (by omega) (by omega)).appS (sc_sp (sc_num (by omega) (by omega))) (st32 _)
  · rw [if_neg (by omega), if_neg (by omega), if_neg (by omega), if_neg (by omega), if_neg (by omega), if_neg (by omega), if_pos (by omega), if_neg (by omega), if_neg (by omega), if_neg (by omega), if_neg (by omega), if_neg (by omega), if_neg (by omega), if_pos (by omega)]
    exact sc_kw (by omega) h2
  · rw [if_neg (by omega), if_neg (by omega), if_neg (by omega), if_neg (by omega), if_neg (by omega), if_neg (by omega), if_neg (by omega), if_neg (by omega), if_neg (by omega), if_neg (by omega), if_neg (by omega), if_neg (by omega), if_neg (by omega), if_neg (by omega)]
    rw [if_pos (by omega)] at hn
    exact (sc_kw (by omega) h2).appS (sc_sp (sc_name hn)) (st32 _)

/-! ### All lines. -/
def toksElse (T : List Tok) (n : Nat) : List Tok := if 0 < n then wd elseW :: sg 123 :: (T ++ [sg 125]) else []
def toksB : Bk → List Tok
  | .nil => []
  | .cons s b e r => toksH s ++ ((if blkK s.kind then sg 123 :: (toksB b ++ (sg 125 :: toksElse (toksB e) e.count)) else [sg 59]) ++ toksB r)
theorem sc_cast {l : List UInt8} {T T' : List Tok} (h : ScA l T) (e : T = T') : ScA l T' := e ▸ h
theorem sc_lines : ∀ (b : Bk) (ind : List UInt8), GoodB b → ind.all blkB = true → ScA (linesB ind b) (toksB b) := by
  intro b
  induction b with
  | nil => intro ind _ _; exact sc_nil
  | cons s b e r i1 i2 i3 =>
    intro ind h hi
    obtain ⟨_, _, _, _, g1, g2, g3, g4⟩ := good_cons.1 h
    have hi2 : (ind ++ [32, 32]).all blkB = true := by rw [List.all_append, hi]; rfl
    have c1 := i1 _ g2 hi2
    have c2 := i2 _ g3 hi2
    have c3 := i3 _ g4 hi
    have hd := sc_head g1
    have hind := sc_blank hi
    have nl : ScA [10] [] := sc_blank (by decide)
    have ob : ScA [32, 123, 10] [sg 123] := ((sc_blank (p := [32]) (by decide)).app (sc_sign (c := 123) (by simp))).app nl
    have cb : ScA [125, 10] [sg 125] := (sc_sign (c := 125) (by simp)).app nl
    unfold linesB toksB
    split
    · have ew : ScA ([125, 32] ++ elseW ++ [32, 123, 10]) [sg 125, wd elseW, sg 123] :=
        sc_cast ((((sc_sign (c := 125) (by simp)).app (sc_blank (p := [32]) (by decide))).appS (sc_word (l := elseW) (by decide))).app ob (st32 _)) rfl
      have mid : ScA ((if 0 < e.count then ind ++ ([125, 32] ++ elseW ++ [32, 123, 10]) ++ linesB (ind ++ [32, 32]) e else []) ++ (ind ++ [125, 10])) (sg 125 :: toksElse (toksB e) e.count) := by
        unfold toksElse
        split
        · exact sc_cast (((hind.app ew).app c2).app (hind.app cb)) (by simp)
        · exact sc_cast (sc_nil.app (hind.app cb)) (by simp)
      have all := hind.app (hd.app ((ob.app (c1.app mid)).app c3) (st32 _))
      exact sc_cast all (by simp)
    · have semi : ScA [59, 10] [sg 59] := (sc_sign (c := 59) (by simp)).app nl
      have all := hind.app (hd.app (semi.app c3) (st59 _))
      exact sc_cast all (by simp)
/-- What is shown, in a block. -/
theorem sc_block {b : Bk} (h : GoodB b) : ∃ T, T.map Tok.bare = sg 123 :: (toksB b ++ [sg 125]) ∧ scanL (123 :: (linesB [] b ++ [125])) 0 = .fine T := by
  have := ((sc_sign (c := 123) (by simp)).app ((sc_lines b [] h rfl).app (sc_sign (c := 125) (by simp)))) [] 0
  obtain ⟨T, h1, h2⟩ := this
  refine ⟨T, by simpa using h1, ?_⟩
  rw [List.append_nil, scanL_nil, pre_fine, List.append_nil] at h2
  exact h2
end Go.Proofs.YtpeohfgadnfnpaaGreatDoor
/-
  DERIVED. Layer 4: what is shown of statements is read as they were; nothing of the program in it.
-/
namespace Go.Proofs.YtpeohfgadnfnpaaGreatDoor
open Go

/-! ### An expression, wherever it stands. -/
theorem no_sign_sg {L : List Tok} {i b : Nat} {c : UInt8} {T : List Tok} (hc : c = 59 ∨ c = 44 ∨ c = 123) (h : From L i (sg c :: T)) : signAt L b i = 0 := by
  refine sign_zero fun op ho _ => ?_
  rw [is_from h]
  have key : ∀ op : Fin 16, (([59] : List UInt8) == signT op) = false ∧ (([44] : List UInt8) == signT op) = false ∧ (([123] : List UInt8) == signT op) = false := by decide
  have k := key ⟨op, ho⟩
  simp only at k
  show (((3 : Int) == 1 || (3 : Int) == 3) && ([c] == signT op)) = false
  rcases hc with rfl | rfl | rfl
  · rw [k.1]; rfl
  · rw [k.2.1]; rfl
  · rw [k.2.2]; rfl
theorem shown_at {x : Ex} (h : GoodX x) (hd : x.deep ≤ 12) (hs : x.size ≤ 40) {L : List Tok} {i : Nat} {c : UInt8} {R : List Tok} (hc : c = 59 ∨ c = 44 ∨ c = 123) (hF : From L i (toksX false x ++ sg c :: R)) :
    ∃ l : List Nod, l.map bareN = x.flat.map bareN ∧ exprP L i = .ok l (i + (toksX false x).length) := by
  have key : ∃ x' f, bareX x' = bareX x ∧ chainF L f 1 i 0 = some (.ok x' (i + (toksX false x).length)) := by
    cases x with
    | leaf a =>
      obtain ⟨x', f, h1, h2⟩ := single_shown (.leaf a) L i 0 _ h hF (by omega)
      have hF2 := From.app (S := toksX true (.leaf a)) hF
      obtain ⟨f', hf'⟩ := chain_lift h2 5 1 (by omega) (by omega) (fun c' _ _ => no_sign_sg hc hF2)
      exact ⟨x', f', h1, hf'⟩
    | un a y =>
      obtain ⟨x', f, h1, h2⟩ := single_shown (.un a y) L i 0 _ h hF (by omega)
      have hF2 := From.app (S := toksX true (.un a y)) hF
      obtain ⟨f', hf'⟩ := chain_lift h2 5 1 (by omega) (by omega) (fun c' _ _ => no_sign_sg hc hF2)
      exact ⟨x', f', h1, hf'⟩
    | bin a y z =>
      have hn : nodOK a = true := good_top h
      obtain ⟨gx, gy⟩ := good_bin h
      have hop := takes_op h.1.1
      obtain ⟨k, hk⟩ : ∃ k : Nat, a.op = k := ⟨a.op.toNat, by omega⟩
      have hk2 : takesN (k : Int) = some 2 := by rw [← hk]; exact h.1.1
      have hkn : a.op.toNat = k := by omega
      have e : toksX false (.bin a y z) = toksX true y ++ signTok k :: toksX true z := by simp [toksX, hkn]
      have hF1 : From L i (toksX true y ++ (signTok k :: (toksX true z ++ sg c :: R))) := by rw [e] at hF; simpa using hF
      simp only [Ex.deep] at hd
      obtain ⟨y', f, hy', hf⟩ := single_shown y L i 0 _ gx hF1 (by omega)
      have hF2 := hF1.app
      obtain ⟨t2, _, _, hF3⟩ := From.head hF2
      obtain ⟨z', g, hz', hg⟩ := single_shown z L (i + (toksX true y).length + 1) 0 _ gy hF3 (by omega)
      have hF4 := hF3.app
      obtain ⟨f', hf'⟩ := bin_read hk2 hf hF2 hg (fun c' _ => no_sign_sg hc hF4)
      refine ⟨.bin ⟨k, 0, [], plAt L (i + (toksX true y).length)⟩ y' z', f', ?_, ?_⟩
      · simp only [bareX]
        rw [hy', hz', bare_sign hk (sign_nod hn (by
          intro e1; rw [e1] at hk; have : k = 1 := by omega
          subst this; exact absurd hk2 (by decide)) (by
          intro e1; rw [e1] at hk; have : k = 2 := by omega
          subst this; exact absurd hk2 (by decide)))]
      · rw [hf', e]
        congr 2
        simp only [List.length_append, List.length_cons]; omega
  obtain ⟨x', f, hx', hf⟩ := key
  have hd' : x'.deep = x.deep := by rw [← deep_bare x', hx', deep_bare]
  have hs' : x'.size = x.size := by rw [← size_bare x', hx', size_bare]
  have hfl : x'.flat.map bareN = x.flat.map bareN := by rw [← flat_bare, hx', flat_bare]
  refine ⟨x'.flat, hfl, ?_⟩
  unfold exprP
  rw [exprV_nat, parseR_of hf, exprR_ok (by omega) (by omega), if_pos rfl]
  show RS.ok x'.flat (((i + (toksX false x).length : Nat) : Int)).toNat = _
  rw [Int.toNat_natCast]
theorem expr_at {l : List Nod} (h : rightL l = true) {L : List Tok} {i : Nat} {c : UInt8} {R : List Tok} (hc : c = 59 ∨ c = 44 ∨ c = 123) (hF : From L i (toksE l ++ sg c :: R)) :
    ∃ l' : List Nod, l'.map bareN = l.map bareN ∧ exprP L i = .ok l' (i + (toksE l).length) := by
  obtain ⟨x, rfl, h1, h2, h3, _, _⟩ := good_right h
  have e : toksE x.flat = toksX false x := by unfold toksE; rw [whole_flat h1.1]
  rw [e] at hF ⊢
  exact shown_at h1 h2 h3 hc hF

/-! ### Small parts. -/
theorem must_at {L : List Tok} {i : Nat} {c : UInt8} {R : List Tok} (h : From L i (sg c :: R)) : mustP L i [c] = .ok () (i + 1) ∧ From L (i + 1) R := by
  obtain ⟨t, _, _, h3⟩ := From.head h
  refine ⟨?_, h3⟩
  unfold mustP
  rw [is_from h]
  simp [sg]
theorem name_at {L : List Tok} {i : Nat} {s : List UInt8} {R : List Tok} (hs : nameB s = true) (h : From L i (wd s :: R)) : nameP L i = .ok s (i + 1) ∧ From L (i + 1) R := by
  obtain ⟨t, h1, h2, h3⟩ := From.head h
  refine ⟨?_, h3⟩
  have hk : t.kind = 1 := by have := congrArg Tok.kind h2; exact this
  have hv : t.text = s := by have := congrArg Tok.text h2; exact this
  unfold nameP nameAt
  rw [h1]
  simp only
  rw [if_pos ⟨hk, by rw [hv]; exact hs⟩, hv]
theorem times_at {L : List Tok} {i : Nat} {n : Int} {u : List UInt8} {R : List Tok} (hn : 1 ≤ n ∧ n ≤ 8) (h : From L i (⟨2, u, n, 0⟩ :: R)) : timesP L i = .ok n (i + 1) ∧ From L (i + 1) R := by
  obtain ⟨t, h1, h2, h3⟩ := From.head h
  refine ⟨?_, h3⟩
  have hk : t.kind = 2 := by have := congrArg Tok.kind h2; exact this
  have hv : t.n = n := by have := congrArg Tok.n h2; exact this
  unfold timesP
  rw [h1]
  simp only
  rw [if_pos hk, hv, if_pos hn]
theorem kw_find : ∀ k : Fin 15, 2 ≤ k.1 → ((List.range 15).find? (fun j => decide (2 ≤ j) && (kwTab.getD k.1 [] == kwTab.getD j []))).getD 1 = k.1 := by decide
theorem kind_kw {L : List Tok} {i k : Nat} {R : List Tok} (h1 : 2 ≤ k) (h2 : k ≤ 14) (h : From L i (wd (kwL (k : Nat)) :: R)) : kindAt L i = k ∧ isB L i [125] = false := by
  have e : kwL (k : Nat) = kwTab.getD k [] := by unfold kwL; rw [Int.toNat_natCast]
  rw [e] at h
  have hk := kw_find ⟨k, by omega⟩ h1
  simp only at hk
  refine ⟨?_, ?_⟩
  · unfold kindAt
    have : (fun j => decide (2 ≤ j) && isB L i (kwTab.getD j [])) = (fun j => decide (2 ≤ j) && (kwTab.getD k [] == kwTab.getD j [])) := by
      funext j
      rw [is_from h]
      simp [wd]
    rw [this]; exact hk
  · rw [is_from h]
    have key : ∀ k : Fin 15, 2 ≤ k.1 → (kwTab.getD k.1 [] == [125]) = false := by decide
    have := key ⟨k, by omega⟩ h1
    simp only at this
    show (((1 : Int) == 1 || (1 : Int) == 3) && (kwTab.getD k [] == [125])) = false
    rw [this]; rfl
theorem kw_kept : ∀ k : Fin 15, 2 ≤ k.1 → keptB (kwTab.getD k.1 []) = true := by decide
theorem kind_name {L : List Tok} {i : Nat} {s : List UInt8} {R : List Tok} (hs : nameB s = true) (h : From L i (wd s :: R)) : kindAt L i = 1 ∧ isB L i [125] = false := by
  have hne : ∀ k, 2 ≤ k → k ≤ 14 → (s == kwTab.getD k []) = false := by
    intro k h1 h2
    rw [beq_eq_false_iff_ne]
    intro e
    have h3 := kw_kept ⟨k, by omega⟩ h1
    simp only at h3
    rw [← e] at h3
    have := name_not_kept s
    rw [hs, h3] at this; cases this
  refine ⟨?_, ?_⟩
  · unfold kindAt
    have : (List.range 15).find? (fun j => decide (2 ≤ j) && isB L i (kwTab.getD j [])) = none := by
      rw [List.find?_eq_none]
      intro j hj
      rw [List.mem_range] at hj
      rw [is_from h]
      by_cases h2 : 2 ≤ j
      · have := hne j h2 (by omega)
        show ¬ ((decide (2 ≤ j) && (((1 : Int) == 1 || (1 : Int) == 3) && (s == kwTab.getD j []))) = true)
        rw [this]; simp
      · simp [h2]
    rw [this]; rfl
  · rw [is_from h]
    obtain ⟨c, m, hc, hl⟩ := name_first hs
    have : (s == [125]) = false := by
      rw [beq_eq_false_iff_ne, hc]
      intro e
      simp at e
      rw [e.1] at hl; exact absurd hl (by decide)
    show (((1 : Int) == 1 || (1 : Int) == 3) && (s == [125])) = false
    rw [this]; rfl

/-! ### A statement's first line. -/
def bareS (s : Stm) : Stm := { s with e := s.e.map bareN, f := s.f.map bareN, pl := 0 }
def bare0 (s : Stm) : Stm := { bareS s with body := 0, els := 0 }
theorem fin_app {L : List Tok} {i : Nat} {T : List Tok} {c : UInt8} {R : List Tok} (h : From L i (T ++ sg c :: R)) : From L (i + T.length) (sg c :: R) := h.app
/-- A statement that is shown is read, up to what ends its line. -/
theorem head_at {x : Stm} (h : fitS x = true) {L : List Tok} {i : Nat} {c : UInt8} {R : List Tok} (hc : c = 59 ∨ c = 44 ∨ c = 123) (hF : From L i (toksH x ++ sg c :: R)) :
    (kindAt L i : Int) = x.kind ∧ isB L i [125] = false ∧ ∃ s, bare0 s = bare0 x ∧ s.kind = x.kind ∧ s.body = 0 ∧ s.els = 0 ∧ plainAt L i = .ok s (i + (toksH x).length) := by
  obtain ⟨k, hk, h1, h2⟩ := fit_kind h
  obtain ⟨_, _, _, hr, hn, he, hf, ht⟩ := fit_inv hk h
  unfold toksH at hF ⊢
  rw [hk] at hF ⊢
  have hkk : k = 1 ∨ k = 2 ∨ k = 3 ∨ k = 4 ∨ (k = 11 ∨ k = 14) ∨ k = 12 ∨ (k = 7 ∨ k = 8 ∨ k = 13) ∨ (k = 5 ∨ k = 6 ∨ k = 9 ∨ k = 10) := by omega
  obtain ⟨xk, xr, xn, xe, xf, xm, xb, xl, xp⟩ := x
  simp only at hk hr hn he hf ht hF ⊢
  rcases hkk with rfl | rfl | rfl | rfl | h | rfl | h | h
  · have hn' : xn = [] := by simpa using hn
    have hf' : xf = [] := by simpa using hf
    have ht' : xm = 0 := by simpa using ht
    subst hk; subst hn'; subst hf'; subst ht'
    have hF : From L i (wd xr :: (sg 61 :: (toksE xe ++ sg c :: R))) := by simpa using hF
    obtain ⟨k1, k2⟩ := kind_name hr hF
    obtain ⟨a1, hF⟩ := name_at hr hF
    obtain ⟨a2, hF⟩ := must_at hF
    obtain ⟨l, b1, a3⟩ := expr_at he hc hF
    refine ⟨by rw [k1], k2, ?_⟩
    unfold plainAt
    rw [k1, if_pos rfl]
    refine ⟨{ stm0 1 (placeV L i) with reg := xr, e := l }, by simp [bare0, bareS, stm0, b1], rfl, rfl, rfl, ?_⟩
    unfold plainP
    rw [if_pos rfl, a1, RS.bind_ok, a2, RS.bind_ok, a3, RS.bind_ok]
    congr 1
    simp; omega
  · have he' : xe = [] := by simpa using he
    have hf' : xf = [] := by simpa using hf
    have ht' : xm = 0 := by simpa using ht
    subst hk; subst he'; subst hf'; subst ht'
    have hF : From L i (wd (kwL (2 : Nat)) :: (wd xr :: (sg 61 :: (wd xn :: sg c :: R)))) := by simpa using hF
    obtain ⟨k1, k2⟩ := kind_kw (by omega) (by omega) hF
    obtain ⟨_, _, _, hF⟩ := From.head hF
    obtain ⟨a1, hF⟩ := name_at hr hF
    obtain ⟨a2, hF⟩ := must_at hF
    obtain ⟨a3, hF⟩ := name_at hn hF
    refine ⟨by rw [k1], k2, ?_⟩
    unfold plainAt
    rw [k1, if_neg (by omega)]
    refine ⟨{ stm0 2 (placeV L i) with reg := xr, name := xn }, by simp [bare0, bareS, stm0], rfl, rfl, rfl, ?_⟩
    unfold plainP
    rw [if_neg (by omega), if_pos rfl, a1, RS.bind_ok, a2, RS.bind_ok, a3, RS.bind_ok]
    rfl
  · have hr' : xr = [] := by simpa using hr
    have hf' : xf = [] := by simpa using hf
    have ht' : xm = 0 := by simpa using ht
    subst hk; subst hr'; subst hf'; subst ht'
    have hF : From L i (wd (kwL (3 : Nat)) :: (wd xn :: (sg 61 :: (toksE xe ++ sg c :: R)))) := by simpa using hF
    obtain ⟨k1, k2⟩ := kind_kw (by omega) (by omega) hF
    obtain ⟨_, _, _, hF⟩ := From.head hF
    obtain ⟨a1, hF⟩ := name_at hn hF
    obtain ⟨a2, hF⟩ := must_at hF
    obtain ⟨l, b1, a3⟩ := expr_at he hc hF
    refine ⟨by rw [k1], k2, ?_⟩
    unfold plainAt
    rw [k1, if_neg (by omega)]
    refine ⟨{ stm0 3 (placeV L i) with name := xn, e := l }, by simp [bare0, bareS, stm0, b1], rfl, rfl, rfl, ?_⟩
    unfold plainP
    rw [if_neg (by omega), if_neg (by omega), if_pos rfl, a1, RS.bind_ok, a2, RS.bind_ok, a3, RS.bind_ok]
    congr 1
    simp; omega
  · have ht' : xm = 0 := by simpa using ht
    subst hk; subst ht'
    have hF : From L i (wd (kwL (4 : Nat)) :: (wd xr :: (sg 61 :: (wd xn :: (sg 44 :: (toksE xe ++ sg 44 :: (toksE xf ++ sg c :: R))))))) := by simpa using hF
    obtain ⟨k1, k2⟩ := kind_kw (by omega) (by omega) hF
    obtain ⟨_, _, _, hF⟩ := From.head hF
    obtain ⟨a1, hF⟩ := name_at hr hF
    obtain ⟨a2, hF⟩ := must_at hF
    obtain ⟨a3, hF⟩ := name_at hn hF
    obtain ⟨a4, hF⟩ := must_at hF
    obtain ⟨l, b1, a5⟩ := expr_at he (.inr (.inl rfl)) hF
    obtain ⟨a6, hF⟩ := must_at (fin_app hF)
    obtain ⟨m, b2, a7⟩ := expr_at hf hc hF
    refine ⟨by rw [k1], k2, ?_⟩
    unfold plainAt
    rw [k1, if_neg (by omega)]
    refine ⟨{ stm0 4 (placeV L i) with reg := xr, name := xn, e := l, f := m }, by simp [bare0, bareS, stm0, b1, b2], rfl, rfl, rfl, ?_⟩
    unfold plainP
    rw [if_neg (by omega), if_neg (by omega), if_neg (by omega), if_pos rfl, a1, RS.bind_ok, a2, RS.bind_ok, a3, RS.bind_ok, a4, RS.bind_ok, a5, RS.bind_ok, a6, RS.bind_ok, a7, RS.bind_ok]
    congr 1
    simp; omega
  · have hr' : xr = [] := by rw [if_neg (by omega)] at hr; simpa using hr
    have hn' : xn = [] := by rw [if_neg (by omega)] at hn; simpa using hn
    have hf' : xf = [] := by rw [if_neg (by omega)] at hf; simpa using hf
    have ht' : xm = 0 := by rw [if_neg (by omega)] at ht; simpa using ht
    rw [if_pos (by omega)] at he
    subst hk; subst hr'; subst hn'; subst hf'; subst ht'
    rw [if_neg (by omega), if_neg (by omega), if_neg (by omega), if_neg (by omega), if_pos (by omega)] at hF ⊢
    have hF : From L i (wd (kwL (k : Nat)) :: (toksE xe ++ sg c :: R)) := by simpa using hF
    obtain ⟨k1, k2⟩ := kind_kw (by omega) (by omega) hF
    obtain ⟨_, _, _, hF⟩ := From.head hF
    obtain ⟨l, b1, a1⟩ := expr_at he hc hF
    refine ⟨by rw [k1], k2, ?_⟩
    unfold plainAt
    rw [k1, if_neg (by omega)]
    refine ⟨{ stm0 k (placeV L i) with e := l }, by simp [bare0, bareS, stm0, b1], rfl, rfl, rfl, ?_⟩
    unfold plainP
    rw [if_neg (by omega), if_neg (by omega), if_neg (by omega), if_neg (by omega), if_neg (by omega), if_pos (by omega), a1, RS.bind_ok]
    congr 1
    simp; omega
  · have hr' : xr = [] := by simpa using hr
    have hn' : xn = [] := by simpa using hn
    have he' : xe = [] := by simpa using he
    have hf' : xf = [] := by simpa using hf
    have ht' : 1 ≤ xm ∧ xm ≤ 8 := by simpa using ht
    subst hk; subst hr'; subst hn'; subst he'; subst hf'
    have hF : From L i (wd (kwL (12 : Nat)) :: (⟨2, Lib.itoa xm, xm, 0⟩ :: sg c :: R)) := by simpa using hF
    obtain ⟨k1, k2⟩ := kind_kw (by omega) (by omega) hF
    obtain ⟨_, _, _, hF⟩ := From.head hF
    obtain ⟨a1, hF⟩ := times_at ht' hF
    refine ⟨by rw [k1], k2, ?_⟩
    unfold plainAt
    rw [k1, if_neg (by omega)]
    refine ⟨{ stm0 12 (placeV L i) with n := xm }, by simp [bare0, bareS, stm0], rfl, rfl, rfl, ?_⟩
    unfold plainP
    rw [if_neg (by omega), if_neg (by omega), if_neg (by omega), if_neg (by omega), if_neg (by omega), if_neg (by omega), if_pos rfl, a1, RS.bind_ok]
    rfl
  · have hr' : xr = [] := by rw [if_neg (by omega)] at hr; simpa using hr
    have hn' : xn = [] := by rw [if_neg (by omega)] at hn; simpa using hn
    have he' : xe = [] := by rw [if_neg (by omega)] at he; simpa using he
    have hf' : xf = [] := by rw [if_neg (by omega)] at hf; simpa using hf
    have ht' : xm = 0 := by rw [if_neg (by omega)] at ht; simpa using ht
    subst hk; subst hr'; subst hn'; subst he'; subst hf'; subst ht'
    rw [if_neg (by omega), if_neg (by omega), if_neg (by omega), if_neg (by omega), if_neg (by omega), if_neg (by omega), if_pos (by omega)] at hF ⊢
    have hF : From L i (wd (kwL (k : Nat)) :: sg c :: R) := by simpa using hF
    obtain ⟨k1, k2⟩ := kind_kw (by omega) (by omega) hF
    refine ⟨by rw [k1], k2, ?_⟩
    unfold plainAt
    rw [k1, if_neg (by omega)]
    refine ⟨stm0 k (placeV L i), by simp [bare0, bareS, stm0], rfl, rfl, rfl, ?_⟩
    unfold plainP
    rw [if_neg (by omega), if_neg (by omega), if_neg (by omega), if_neg (by omega), if_neg (by omega), if_neg (by omega), if_neg (by omega)]
    rfl
  · have hr' : xr = [] := by rw [if_neg (by omega)] at hr; simpa using hr
    have he' : xe = [] := by rw [if_neg (by omega)] at he; simpa using he
    have hf' : xf = [] := by rw [if_neg (by omega)] at hf; simpa using hf
    have ht' : xm = 0 := by rw [if_neg (by omega)] at ht; simpa using ht
    rw [if_pos (by omega)] at hn
    subst hk; subst hr'; subst he'; subst hf'; subst ht'
    rw [if_neg (by omega), if_neg (by omega), if_neg (by omega), if_neg (by omega), if_neg (by omega), if_neg (by omega), if_neg (by omega)] at hF ⊢
    have hF : From L i (wd (kwL (k : Nat)) :: (wd xn :: sg c :: R)) := by simpa using hF
    obtain ⟨k1, k2⟩ := kind_kw (by omega) (by omega) hF
    obtain ⟨_, _, _, hF⟩ := From.head hF
    obtain ⟨a1, hF⟩ := name_at hn hF
    refine ⟨by rw [k1], k2, ?_⟩
    unfold plainAt
    rw [k1, if_neg (by omega)]
    refine ⟨{ stm0 k (placeV L i) with name := xn }, by simp [bare0, bareS, stm0], rfl, rfl, rfl, ?_⟩
    unfold plainP
    rw [if_neg (by omega), if_neg (by omega), if_neg (by omega), if_neg (by omega), if_pos (by omega), a1, RS.bind_ok]
    rfl
end Go.Proofs.YtpeohfgadnfnpaaGreatDoor
