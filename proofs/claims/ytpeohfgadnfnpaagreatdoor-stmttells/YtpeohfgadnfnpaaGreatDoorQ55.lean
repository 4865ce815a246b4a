/-
  DERIVED. Texts of the walk, packed: StBackB, StLaws.
-/
import Derived.Test.YtpeohfgadnfnpaaGreatDoorQ54
/-
  DERIVED. Layer 4: rows of statements that are shown are read as they were; nothing of the program in it.
-/
namespace Go.Proofs.YtpeohfgadnfnpaaGreatDoor
open Go

def bareB : Bk → Bk
  | .nil => .nil
  | .cons s b e r => .cons (bareS s) (bareB b) (bareB e) (bareB r)
theorem count_bareB (b : Bk) : (bareB b).count = b.count := by
  induction b with
  | nil => rfl
  | cons s b e r h1 h2 h3 => simp only [bareB, Bk.count, h1, h2, h3]
theorem count_same {b b' : Bk} (h : bareB b' = bareB b) : b'.count = b.count := by rw [← count_bareB, h, count_bareB]
theorem flat_bareB (b : Bk) : (bareB b).flat = b.flat.map bareS := by
  induction b with
  | nil => rfl
  | cons s b e r h1 h2 h3 => simp only [bareB, Bk.flat, h1, h2, h3, List.map_cons, List.map_append]
theorem deep_bareB (b : Bk) : (bareB b).deep = b.deep := by
  induction b with
  | nil => rfl
  | cons s b e r h1 h2 h3 => simp only [bareB, Bk.deep, h1, h2, h3]; rfl
theorem head_first {x : Stm} (h : fitS x = true) : ∃ u T, toksH x = wd u :: T ∧ (u == elseW) = false := by
  obtain ⟨k, hk, h1, h2⟩ := fit_kind h
  obtain ⟨_, _, _, hr, hn, he, hf, ht⟩ := fit_inv hk h
  have key : ∀ k : Fin 15, 2 ≤ k.1 → (kwL (k.1 : Nat) == elseW) = false := by decide
  have kw : 2 ≤ k → (kwL (k : Nat) == elseW) = false := fun h => key ⟨k, by omega⟩ h
  unfold toksH
  rw [hk]
  have hkk : k = 1 ∨ k = 2 ∨ k = 3 ∨ k = 4 ∨ (k = 11 ∨ k = 14) ∨ k = 12 ∨ (k = 7 ∨ k = 8 ∨ k = 13) ∨ (k = 5 ∨ k = 6 ∨ k = 9 ∨ k = 10) := by omega
  rcases hkk with rfl | rfl | rfl | rfl | h | rfl | h | h
  · refine ⟨x.reg, _, rfl, ?_⟩
    have hr' : nameB x.reg = true := hr
    rw [beq_eq_false_iff_ne]
    intro e
    rw [e] at hr'; exact absurd hr' (by decide)
  · exact ⟨_, _, rfl, kw (by omega)⟩
  · exact ⟨_, _, rfl, kw (by omega)⟩
  · exact ⟨_, _, rfl, kw (by omega)⟩
  · rw [if_neg (by omega), if_neg (by omega), if_neg (by omega), if_neg (by omega), if_pos (by omega)]
    exact ⟨_, _, rfl, kw (by omega)⟩
  · exact ⟨_, _, rfl, kw (by omega)⟩
  · rw [if_neg (by omega), if_neg (by omega), if_neg (by omega), if_neg (by omega), if_neg (by omega), if_neg (by omega), if_pos (by omega)]
    exact ⟨_, _, rfl, kw (by omega)⟩
  · rw [if_neg (by omega), if_neg (by omega), if_neg (by omega), if_neg (by omega), if_neg (by omega), if_neg (by omega), if_neg (by omega)]
    exact ⟨_, _, rfl, kw (by omega)⟩
theorem not_else {r : Bk} (h : GoodB r) {L : List Tok} {i : Nat} {R : List Tok} (hF : From L i (toksB r ++ sg 125 :: R)) : isB L i elseW = false := by
  cases r with
  | nil =>
    have hF' : From L i (sg 125 :: R) := hF
    rw [is_from hF']; rfl
  | cons s b e r =>
    obtain ⟨_, _, _, _, g, _⟩ := good_cons.1 h
    obtain ⟨u, T, e1, e2⟩ := head_first g
    unfold toksB at hF
    rw [e1] at hF
    simp only [List.cons_append] at hF
    rw [is_from hF]
    show (((1 : Int) == 1 || (1 : Int) == 3) && (u == elseW)) = false
    rw [e2]; rfl
theorem is_else {L : List Tok} {i : Nat} {R : List Tok} (hF : From L i (wd elseW :: R)) : isB L i elseW = true := by
  rw [is_from hF]; rfl
/-- A block, by how its row is read. -/
theorem block_at {L : List Tok} {f i d l n : Nat} {b : Bk} {T R : List Tok} (hd : d ≤ 12) (hF : From L i (sg 123 :: (T ++ sg 125 :: R))) (hn : n = T.length) (hr : rowF L f (i + 1) d l = some (.ok b (i + 1 + n))) :
    blockW (rowF L f) L i d l = some (.ok b (i + 1 + n + 1)) ∧ From L (i + 1 + n + 1) R := by
  obtain ⟨a1, hF1⟩ := must_at hF
  have hF2 := hF1.app
  rw [← hn] at hF2
  obtain ⟨a2, hF3⟩ := must_at hF2
  refine ⟨?_, hF3⟩
  unfold blockW
  rw [if_neg (by omega), a1, RS.obind_ok, hr, RS.obind_ok, a2, RS.obind_ok]
theorem bareS_of {s x : Stm} (h : bare0 s = bare0 x) (h1 : s.body = x.body) (h2 : s.els = x.els) : bareS s = bareS x := by
  obtain ⟨a1, a2, a3, a4, a5, a6, a7, a8, a9⟩ := s
  obtain ⟨b1, b2, b3, b4, b5, b6, b7, b8, b9⟩ := x
  simp only [bare0, bareS, Stm.mk.injEq] at h h1 h2 ⊢
  simp [h, h1, h2]
theorem bare0_set {s : Stm} (m n : Int) : bare0 { s with body := m, els := n } = bare0 s := rfl
/-- THE HEART: rows that are shown are read. -/
theorem row_back : ∀ (b : Bk) (L : List Tok) (i d l : Nat) (R : List Tok), GoodB b → b.brk l = true → d + b.deep ≤ 12 → From L i (toksB b ++ sg 125 :: R) → ∃ b' f, bareB b' = bareB b ∧ rowF L f i d l = some (.ok b' (i + (toksB b).length)) := by
  intro b
  induction b with
  | nil =>
    intro L i d l R _ _ _ hF
    have hF' : From L i (sg 125 :: R) := hF
    refine ⟨.nil, 1, rfl, ?_⟩
    rw [rowF_succ, if_pos (by rw [is_from hF']; rfl)]; rfl
  | cons s b e r i1 i2 i3 =>
    intro L i d l R h hb hd hF
    obtain ⟨h1, h2, h3, h4, g1, g2, g3, g4⟩ := good_cons.1 h
    simp only [Bk.brk, Bool.and_eq_true, Bool.or_eq_true, Bool.not_eq_true', decide_eq_true_eq, decide_eq_false_iff_not] at hb
    obtain ⟨⟨⟨b0, b1⟩, b2⟩, b3⟩ := hb
    simp only [Bk.deep] at hd
    unfold toksB at hF ⊢
    by_cases hk : blkK s.kind
    · rw [if_pos hk] at hF hd ⊢
      have hF : From L i (toksH s ++ sg 123 :: (toksB b ++ sg 125 :: (toksElse (toksB e) e.count ++ (toksB r ++ sg 125 :: R)))) := by simpa using hF
      obtain ⟨k1, k2, s', p1, p2, p3, p4, p5⟩ := head_at g1 (.inr (.inr rfl)) hF
      have hFb := fin_app hF
      obtain ⟨_, _, _, hF1⟩ := From.head hFb
      have hin : inL (kindAt L i) l = if s.kind = 12 then l + 1 else l := by
        unfold inL
        by_cases hc : kindAt L i = 12
        · rw [if_pos hc, if_pos (by omega)]
        · rw [if_neg hc, if_neg (by omega)]
      rw [← hin] at b1 b2
      obtain ⟨b', f1, q1, r1⟩ := i1 L _ (d + 1) _ _ g2 b1 (by omega) hF1
      obtain ⟨w1, hF2⟩ := block_at (by omega) hFb rfl r1
      have hkk : blkK (kindAt L i : Nat) := by rw [k1]; exact hk
      -- the else
      have key : ∃ e' f2 j, bareB e' = bareB e ∧ j = i + (toksH s).length + 1 + (toksB b).length + 1 + (toksElse (toksB e) e.count).length ∧ elseW4 (rowF L f2) L (kindAt L i) (i + (toksH s).length + 1 + (toksB b).length + 1) (d + 1) (inL (kindAt L i) l) = some (.ok e' j) ∧ From L j (toksB r ++ sg 125 :: R) := by
        by_cases hc : 0 < e.count
        · have hk11 : kindAt L i = 11 := by have := h4 hc; omega
          have et : toksElse (toksB e) e.count = wd elseW :: sg 123 :: (toksB e ++ [sg 125]) := by unfold toksElse; rw [if_pos hc]
          rw [et] at hF2 ⊢
          have hF3 : From L (i + (toksH s).length + 1 + (toksB b).length + 1) (wd elseW :: (sg 123 :: (toksB e ++ sg 125 :: (toksB r ++ sg 125 :: R)))) := by simpa using hF2
          have ie := is_else hF3
          obtain ⟨_, _, _, hF4⟩ := From.head hF3
          obtain ⟨_, _, _, hF5⟩ := From.head hF4
          obtain ⟨e', f2, q2, r2⟩ := i2 L _ (d + 1) _ _ g3 b2 (by omega) hF5
          obtain ⟨w2, hF6⟩ := block_at (by omega) hF4 rfl r2
          refine ⟨e', f2, _, q2, ?_, ?_, hF6⟩
          · simp only [List.length_cons, List.length_append, List.length_nil]; omega
          · unfold elseW4; rw [if_pos ⟨hk11, ie⟩]; exact w2
        · obtain rfl : e = .nil := count_nil (by omega)
          have et : toksElse (toksB .nil) (Bk.count .nil) = [] := rfl
          rw [et] at hF2 ⊢
          have hF3 : From L (i + (toksH s).length + 1 + (toksB b).length + 1) (toksB r ++ sg 125 :: R) := hF2
          refine ⟨.nil, 0, _, rfl, rfl, ?_, hF3⟩
          unfold elseW4
          rw [if_neg (by rw [not_else g4 hF3]; simp)]
          rfl
      obtain ⟨e', f2, j, q2, ej, w2, hF7⟩ := key
      obtain ⟨r', f3, q3, r3⟩ := i3 L j d l R g4 b3 (by omega) hF7
      have m1 := block_more (row_more L (Nat.le_trans (Nat.le_max_left f1 f2) (Nat.le_max_left _ f3))) w1
      have m2 := else_more (row_more L (Nat.le_trans (Nat.le_max_right f1 f2) (Nat.le_max_left _ f3))) w2
      have m3 := row_more L (Nat.le_max_right (max f1 f2) f3) _ _ _ _ r3
      generalize max (max f1 f2) f3 = F at m1 m2 m3
      refine ⟨.cons { s' with body := b'.count, els := e'.count } b' e' r', F + 1, ?_, ?_⟩
      · simp only [bareB]
        rw [q1, q2, q3]
        congr 1
        refine bareS_of ?_ ?_ ?_
        · rw [bare0_set]; exact p1
        · show (b'.count : Int) = s.body; rw [h1, count_same q1]
        · show (e'.count : Int) = s.els; rw [h2, count_same q2]
      · rw [rowF_succ, if_neg (by rw [k2]; simp)]
        have one : oneW (rowF L F) L i d l = some (.ok ⟨{ s' with body := b'.count, els := e'.count }, b', e'⟩ j) := by
          unfold oneW
          rw [if_neg (by omega)]
          unfold plainAt at p5
          rw [p5, RS.obind_ok, if_neg (by simpa using hkk), m1, RS.obind_ok, m2, RS.obind_ok]
        rw [one, RS.obind_ok, m3, RS.obind_ok]
        congr 2
        rw [ej]
        simp only [List.length_cons, List.length_append]; omega
    · rw [if_neg hk] at hF ⊢
      obtain rfl : b = .nil := count_nil (by
        rcases Nat.eq_zero_or_pos b.count with h | h
        · exact h
        · exact absurd (h3 h) hk)
      obtain rfl : e = .nil := count_nil (by
        rcases Nat.eq_zero_or_pos e.count with h | h
        · exact h
        · exact absurd (.inl (h4 h)) hk)
      have hF : From L i (toksH s ++ sg 59 :: (toksB r ++ sg 125 :: R)) := by simpa using hF
      obtain ⟨k1, k2, s', p1, p2, p3, p4, p5⟩ := head_at g1 (.inl rfl) hF
      obtain ⟨a1, hF1⟩ := must_at (fin_app hF)
      obtain ⟨r', f3, q3, r3⟩ := i3 L _ d l R g4 b3 (by omega) hF1
      refine ⟨.cons s' .nil .nil r', f3 + 1, ?_, ?_⟩
      · simp only [bareB]
        rw [q3]
        congr 1
        exact bareS_of p1 (by rw [p3, h1]; rfl) (by rw [p4, h2]; rfl)
      · rw [rowF_succ, if_neg (by rw [k2]; simp)]
        have one : oneW (rowF L f3) L i d l = some (.ok ⟨s', .nil, .nil⟩ (i + (toksH s).length + 1)) := by
          unfold oneW
          rw [if_neg (by omega)]
          unfold plainAt at p5
          rw [p5, RS.obind_ok, if_pos (by rw [k1]; exact hk), a1, RS.obind_ok]
        rw [one, RS.obind_ok, r3, RS.obind_ok]
        congr 2
        simp only [List.length_cons, List.length_append, List.length_nil]; omega
/-- What is shown of right statements, in a block, is read as they were. -/
theorem block_back {b : Bk} (h : GoodB b) (hb : b.brk 0 = true) (hd : b.deep ≤ 12) (hc : b.count ≤ 40) : ∃ (b' : Bk) (T : List Tok), bareB b' = bareB b ∧ scanL (123 :: (linesB [] b ++ [125])) 0 = .fine T ∧ blockR T 0 0 0 = .ok b' T.length ∧ stmtV T 0 = ⟨b'.flat, T.length, 0, 0⟩ := by
  obtain ⟨T, hT, hs⟩ := sc_block h
  have hF : From T 0 (sg 123 :: (toksB b ++ sg 125 :: [])) := by unfold From; rw [List.drop_zero, hT]
  obtain ⟨_, _, _, hF1⟩ := From.head hF
  obtain ⟨b', f, q, r⟩ := row_back b T (0 + 1) 0 0 [] h hb (by omega) hF1
  obtain ⟨w, _⟩ := block_at (by omega) hF rfl r
  have hl : T.length = 0 + 1 + (toksB b).length + 1 := by
    have := congrArg List.length hT
    simp only [List.length_map, List.length_cons, List.length_append, List.length_nil] at this
    omega
  rw [← hl] at w
  have hR := blockR_of w
  refine ⟨b', T, q, hs, hR, ?_⟩
  have hc' : b'.count ≤ 40 := by rw [count_same q]; exact hc
  unfold stmtV
  rw [if_neg (by omega)]
  show stmtR T 0 (blockR T 0 0 0) = _
  rw [hR]
  unfold stmtR
  simp only
  rw [if_neg (by omega)]
theorem same_stm {a b : Stm} (h : bareS a = bareS b) : stmEq false a b = true := by
  obtain ⟨a1, a2, a3, a4, a5, a6, a7, a8, a9⟩ := a
  obtain ⟨b1, b2, b3, b4, b5, b6, b7, b8, b9⟩ := b
  simp only [bareS, Stm.mk.injEq] at h
  obtain ⟨rfl, rfl, rfl, h4, h5, rfl, rfl, rfl, _⟩ := h
  simp [stmEq, same_bare h4, same_bare h5]
theorem same_rows : ∀ {L M : List Stm}, L.map bareS = M.map bareS → sameSt false L M = true
  | [], [], _ => rfl
  | [], b :: m, h => by simp at h
  | a :: l, [], h => by simp at h
  | a :: l, b :: m, h => by
    simp only [List.map_cons, List.cons.injEq] at h
    have ih := same_rows h.2
    unfold sameSt at *
    unfold sameG
    rw [same_stm h.1, ih]; rfl
theorem same_back {b b' : Bk} (h : bareB b' = bareB b) : sameSt false b.flat b'.flat = true ∧ sameSt false b'.flat b.flat = true ∧ b'.deep = b.deep :=
  ⟨same_rows (by rw [← flat_bareB, ← flat_bareB, h]), same_rows (by rw [← flat_bareB, ← flat_bareB, h]), by rw [← deep_bareB, h, deep_bareB]⟩
end Go.Proofs.YtpeohfgadnfnpaaGreatDoor
/-
  DERIVED. Layer 4: rows one behind the other, statements in a block, bodies by themselves; nothing of the program in it.
-/
namespace Go.Proofs.YtpeohfgadnfnpaaGreatDoor
open Go

/-! ### One row behind another. -/
def Bk.app : Bk → Bk → Bk
  | .nil, c => c
  | .cons s b e r, c => .cons s b e (r.app c)
theorem app_flat (b c : Bk) : (b.app c).flat = b.flat ++ c.flat := by
  induction b with
  | nil => rfl
  | cons s b e r _ _ h3 => simp only [Bk.app, Bk.flat, h3, List.cons_append, List.append_assoc]
theorem app_count (b c : Bk) : (b.app c).count = b.count + c.count := by
  induction b with
  | nil => simp [Bk.app, Bk.count]
  | cons s b e r _ _ h3 => simp only [Bk.app, Bk.count, h3]; omega
theorem app_deep (b c : Bk) : (b.app c).deep = max b.deep c.deep := by
  induction b with
  | nil => simp [Bk.app, Bk.deep]
  | cons s b e r _ _ h3 => simp only [Bk.app, Bk.deep, h3]; omega
theorem app_brk (l : Nat) (b c : Bk) : (b.app c).brk l = (b.brk l && c.brk l) := by
  induction b with
  | nil => simp [Bk.app, Bk.brk]
  | cons s b e r _ _ h3 => simp only [Bk.app, Bk.brk, h3, Bool.and_assoc]
theorem app_fit (b c : Bk) : (b.app c).fit ↔ b.fit ∧ c.fit := by
  induction b with
  | nil => simp [Bk.app, Bk.fit]
  | cons s b e r _ _ h3 =>
    simp only [Bk.app, Bk.fit, h3]
    constructor
    · rintro ⟨h1, h2, h3, h4, h5, h6, h7, h8⟩; exact ⟨⟨h1, h2, h3, h4, h5, h6, h7⟩, h8⟩
    · rintro ⟨⟨h1, h2, h3, h4, h5, h6, h7⟩, h8⟩; exact ⟨h1, h2, h3, h4, h5, h6, h7, h8⟩
theorem app_lines (ind : List UInt8) (b c : Bk) : linesB ind (b.app c) = linesB ind b ++ linesB ind c := by
  induction b with
  | nil => rfl
  | cons s b e r _ _ h3 => simp only [Bk.app, linesB, h3, List.append_assoc]
theorem app_assoc (a b c : Bk) : (a.app b).app c = a.app (b.app c) := by
  induction a with
  | nil => rfl
  | cons s b e r _ _ h3 => simp only [Bk.app, h3]
theorem app_nil (b : Bk) : b.app .nil = b := by
  induction b with
  | nil => rfl
  | cons s b e r _ _ h3 => simp only [Bk.app, h3]
theorem joins_pure {L M : List Stm} (hl : rightS L = true) (hm : rightS M = true) :
    rightS (L ++ M) = decide ((L ++ M).length ≤ 40) ∧ ((L ++ M).length ≤ 40 → showS (L ++ M) = showS L ++ showS M ∧ depthS (L ++ M) = max (depthS L) (depthS M)) := by
  obtain ⟨b, rfl, g1, g2, g3, g4, _⟩ := rightS_some hl
  obtain ⟨c, rfl, k1, k2, k3, k4, _⟩ := rightS_some hm
  have hf : (b.app c).fit := (app_fit b c).2 ⟨g1.1, k1.1⟩
  have hr : rightS (b.app c).flat = decide ((b.app c).flat.length ≤ 40) := by
    have h1 : (b.app c).flat.all fitS = true := by rw [app_flat, List.all_append, g1.2, k1.2]; rfl
    have h2 : (b.app c).brk 0 = true := by rw [app_brk, g3, k3]; rfl
    have h3 : (b.app c).deep ≤ 12 := by rw [app_deep]; omega
    rw [rightS_flat hf, h1, h2, flat_count]
    simp [h3]
  rw [app_flat] at hr
  refine ⟨hr, fun h40 => ?_⟩
  have hr' : rightS (b.app c).flat = true := by rw [app_flat, hr]; simpa using h40
  rw [← app_flat, showS_right hf hr', showS_right g1.1 hl, showS_right k1.1 hm, depthS_right hf hr', depthS_right g1.1 hl, depthS_right k1.1 hm, app_lines, app_deep]
  exact ⟨rfl, by omega⟩

/-! ### In a loop, or in both parts of an If. -/
theorem brk_mono : ∀ (b : Bk) (l m : Nat), l ≤ m → b.brk l = true → b.brk m = true := by
  intro b
  induction b with
  | nil => intro _ _ _ _; rfl
  | cons s b e r h1 h2 h3 =>
    intro l m hlm h
    simp only [Bk.brk, Bool.and_eq_true, Bool.or_eq_true, Bool.not_eq_true', decide_eq_true_eq, decide_eq_false_iff_not] at h ⊢
    obtain ⟨⟨⟨b0, b1⟩, b2⟩, b3⟩ := h
    refine ⟨⟨⟨by omega, h1 _ _ ?_ b1⟩, h2 _ _ ?_ b2⟩, h3 _ _ hlm b3⟩
    · split <;> omega
    · split <;> omega
theorem wraps_loop {L : List Stm} (h : rightS L = true) {n : Int} (hn : 1 ≤ n ∧ n ≤ 8) {x : Stm} (hx : x = ⟨12, [], [], [], [], n, L.length, 0, 0⟩) :
    rightS (x :: L) = (decide (depthS L < 12) && decide (L.length < 40)) ∧ (rightS (x :: L) = true → depthS (x :: L) = depthS L + 1) := by
  obtain ⟨b, rfl, g1, g2, g3, g4, _⟩ := rightS_some h
  have hf : (Bk.cons x b .nil .nil).fit := by
    subst hx
    exact ⟨by rw [flat_count], rfl, fun _ => .inr rfl, fun h => absurd h (by simp [Bk.count]), g1.1, trivial, trivial⟩
  have e : x :: b.flat = (Bk.cons x b .nil .nil).flat := by simp [Bk.flat]
  have hfit : fitS x = true := by
    subst hx
    exact fit_of (k := 12) rfl (by omega) (by omega) ⟨Int.le_refl 0, by show (0 : Int) ≤ 4000; decide⟩ rfl rfl rfl rfl (by simp; exact hn)
  have hk : x.kind = 12 := by subst hx; rfl
  have hdeep : (Bk.cons x b .nil .nil).deep = b.deep + 1 := by
    simp only [Bk.deep]; rw [if_pos (by rw [hk]; exact .inr rfl)]; omega
  have hcnt : (Bk.cons x b .nil .nil).count = b.count + 1 := by simp [Bk.count]
  have hd : depthS b.flat = b.deep := depthS_right g1.1 h
  have hr := rightS_flat hf
  have h1 : (Bk.cons x b .nil .nil).flat.all fitS = true := by rw [← e, List.all_cons, hfit, g1.2]; rfl
  have h2 : (Bk.cons x b .nil .nil).brk 0 = true := by
    simp only [Bk.brk]
    rw [hk, brk_mono b 0 (if (12 : Int) = 12 then 0 + 1 else 0) (by simp) g3]; rfl
  rw [h1, h2, hdeep] at hr
  rw [e]
  refine ⟨?_, fun h => ?_⟩
  · rw [hr, hd, flat_count, hcnt, Bool.eq_iff_iff]
    simp only [Bool.and_eq_true, decide_eq_true_eq, and_true]
    omega
  · rw [depthS_right hf h, hdeep, hd]; rfl
theorem wraps_if {L : List Stm} (h : rightS L = true) {x : Stm} (hx : x = ⟨11, [], [], [⟨1, 1, [], 0⟩], [], 0, L.length, L.length, 0⟩) :
    rightS (x :: (L ++ L)) = (decide (depthS L < 12) && decide (2 * L.length < 40)) ∧ (rightS (x :: (L ++ L)) = true → depthS (x :: (L ++ L)) = depthS L + 1) := by
  obtain ⟨b, rfl, g1, g2, g3, g4, _⟩ := rightS_some h
  have hf : (Bk.cons x b b .nil).fit := by
    subst hx
    exact ⟨by rw [flat_count], by rw [flat_count], fun _ => .inl rfl, fun _ => rfl, g1.1, g1.1, trivial⟩
  have e : x :: (b.flat ++ b.flat) = (Bk.cons x b b .nil).flat := by simp [Bk.flat]
  have hfit : fitS x = true := by
    subst hx
    exact fit_of (k := 11) rfl (by omega) (by omega) ⟨Int.le_refl 0, by show (0 : Int) ≤ 4000; decide⟩ rfl rfl (by show rightL [⟨1, 1, [], 0⟩] = true; decide) rfl rfl
  have hk : x.kind = 11 := by subst hx; rfl
  have hdeep : (Bk.cons x b b .nil).deep = b.deep + 1 := by
    simp only [Bk.deep]; rw [if_pos (by rw [hk]; exact .inl rfl)]; omega
  have hcnt : (Bk.cons x b b .nil).count = b.count + b.count + 1 := by simp [Bk.count]
  have hd : depthS b.flat = b.deep := depthS_right g1.1 h
  have hr := rightS_flat hf
  have h1 : (Bk.cons x b b .nil).flat.all fitS = true := by rw [← e, List.all_cons, hfit, List.all_append, g1.2]; rfl
  have h2 : (Bk.cons x b b .nil).brk 0 = true := by
    simp only [Bk.brk]
    rw [hk, show (if (11 : Int) = 12 then 0 + 1 else 0) = 0 from rfl, g3]; rfl
  rw [h1, h2, hdeep] at hr
  rw [e]
  refine ⟨?_, fun h => ?_⟩
  · rw [hr, hd, flat_count, hcnt, Bool.eq_iff_iff]
    simp only [Bool.and_eq_true, decide_eq_true_eq, and_true]
    omega
  · rw [depthS_right hf h, hdeep, hd]; rfl

/-! ### A statement among others. -/
theorem brk_none : ∀ (b : Bk) (l : Nat), (∀ x ∈ b.flat, ¬ x.kind = 13) → b.brk l = true := by
  intro b
  induction b with
  | nil => intro _ _; rfl
  | cons s b e r h1 h2 h3 =>
    intro l h
    simp only [Bk.flat, List.mem_cons, List.mem_append] at h
    simp only [Bk.brk, Bool.and_eq_true, Bool.or_eq_true, Bool.not_eq_true', decide_eq_true_eq, decide_eq_false_iff_not]
    exact ⟨⟨⟨.inl (h s (.inl rfl)), h1 _ fun x hx => h x (.inr (.inl hx))⟩, h2 _ fun x hx => h x (.inr (.inr (.inl hx)))⟩, h3 _ fun x hx => h x (.inr (.inr (.inr hx)))⟩
/-- At a place a whole statement begins. -/
def StandsAt (b : Bk) (k : Nat) (p : Bk) (s : Stm) (x e r : Bk) : Prop := b = p.app (.cons s x e r) ∧ k = p.count
theorem stands_first {b : Bk} (h : 0 < b.count) : ∃ s x e r, StandsAt b 0 .nil s x e r := by
  cases b with
  | nil => simp [Bk.count] at h
  | cons s x e r => exact ⟨s, x, e, r, rfl, rfl⟩
theorem stands_next {b p x e r : Bk} {s : Stm} {k : Nat} (h : StandsAt b k p s x e r) (hr : 0 < r.count) : ∃ s' x' e' r', StandsAt b (k + 1 + x.count + e.count) (p.app (.cons s x e .nil)) s' x' e' r' := by
  obtain ⟨rfl, rfl⟩ := h
  cases r with
  | nil => simp [Bk.count] at hr
  | cons s' x' e' r' =>
    refine ⟨s', x', e', r', ?_, ?_⟩
    · rw [app_assoc]; rfl
    · rw [app_count]; simp only [Bk.count]; omega
theorem stands_parts {b p x e r : Bk} {s : Stm} {k : Nat} (h : StandsAt b k p s x e r) (hb : b.fit) : b.flat[k]? = some s ∧ s.body = x.count ∧ s.els = e.count ∧ b.count = k + 1 + x.count + e.count + r.count ∧
    b.flat.take k = p.flat ∧ (b.flat.take (k + 1 + x.count)).drop (k + 1) = x.flat ∧ b.flat.drop (k + 1 + x.count + e.count) = r.flat := by
  obtain ⟨rfl, rfl⟩ := h
  obtain ⟨h1, h2⟩ := (app_fit _ _).1 hb
  obtain ⟨e1, e2, _⟩ := h2
  have ef : (p.app (.cons s x e r)).flat = p.flat ++ (s :: (x.flat ++ (e.flat ++ r.flat))) := by rw [app_flat]; rfl
  refine ⟨?_, e1, e2, ?_, ?_, ?_, ?_⟩
  · rw [ef, List.getElem?_append_right (by rw [flat_count]; exact Nat.le_refl _), flat_count]; simp
  · rw [app_count]; simp only [Bk.count]; omega
  · rw [ef, ← flat_count, List.take_left]
  · rw [ef, List.drop_take, ← flat_count p, ← flat_count x, Nat.add_assoc p.flat.length 1, ← List.drop_drop, List.drop_left]
    rw [show p.flat.length + (1 + x.flat.length) - (p.flat.length + 1) = x.flat.length from by omega]
    show List.take x.flat.length (x.flat ++ (e.flat ++ r.flat)) = _
    rw [List.take_left]
  · rw [ef, ← flat_count p, ← flat_count x, ← flat_count e]
    rw [show p.flat.length + 1 + x.flat.length + e.flat.length = p.flat.length + (1 + (x.flat.length + e.flat.length)) from by omega, ← List.drop_drop, List.drop_left, ← List.drop_drop]
    show List.drop (x.flat.length + e.flat.length) (x.flat ++ (e.flat ++ r.flat)) = _
    rw [← List.drop_drop, List.drop_left, List.drop_left]
theorem bodies_pure {b p x e r : Bk} {s : Stm} {k : Nat} (h : StandsAt b k p s x e r) (hr : rightS b.flat = true) (hb : b.fit) :
    rightS (p.flat ++ r.flat) = true ∧ ((∀ y ∈ x.flat, ¬ y.kind = 13) → rightS x.flat = true ∧ (0 < x.count → depthS x.flat < depthS b.flat)) := by
  have hr0 := hr
  rw [rightS_flat hb] at hr
  simp only [Bool.and_eq_true, decide_eq_true_eq] at hr
  obtain ⟨⟨⟨q1, q2⟩, q3⟩, q4⟩ := hr
  have hdb := depthS_right hb hr0
  obtain ⟨rfl, rfl⟩ := h
  obtain ⟨f1, f2⟩ := (app_fit _ _).1 hb
  obtain ⟨_, _, e3, _, f3, f4, f5⟩ := f2
  rw [app_count] at q1
  rw [app_flat, List.all_append] at q2
  simp only [Bk.flat, List.all_cons, List.all_append, Bool.and_eq_true] at q2
  obtain ⟨a1, a2, a3, a4, a5⟩ := q2
  rw [app_brk] at q3
  simp only [Bk.brk, Bool.and_eq_true] at q3
  obtain ⟨c1, ⟨⟨c2, c3⟩, c4⟩, c5⟩ := q3
  rw [app_deep] at q4 hdb
  simp only [Bk.deep] at q4 hdb
  simp only [Bk.count] at q1
  refine ⟨?_, fun hx => ?_⟩
  · rw [← app_flat]
    refine rightS_good ⟨(app_fit _ _).2 ⟨f1, f5⟩, by rw [app_flat, List.all_append, a1, a5]; rfl⟩ ?_ ?_ ?_
    · rw [app_count]; omega
    · rw [app_brk, c1, c5]; rfl
    · rw [app_deep]; omega
  · have hxd : x.deep ≤ 12 ∧ (0 < x.count → x.deep + 1 ≤ (if blkK s.kind then max (x.deep + 1) (e.deep + 1) else 0)) := by
      refine ⟨?_, fun h0 => ?_⟩
      · by_cases h0 : 0 < x.count
        · rw [if_pos (e3 h0)] at q4; omega
        · obtain rfl := count_nil (b := x) (by omega)
          simp [Bk.deep]
      · rw [if_pos (e3 h0)]; omega
    have hxr : rightS x.flat = true := rightS_good ⟨f3, a3⟩ (by omega) (brk_none x 0 hx) hxd.1
    refine ⟨hxr, fun h0 => ?_⟩
    rw [depthS_right f3 hxr, hdb]
    have := hxd.2 h0
    omega
end Go.Proofs.YtpeohfgadnfnpaaGreatDoor
