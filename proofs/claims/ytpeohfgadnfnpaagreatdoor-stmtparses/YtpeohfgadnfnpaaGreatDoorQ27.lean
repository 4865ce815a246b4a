/-
  DERIVED. Texts of the walk, packed: StWords, SWord.
-/
import Derived.Test.YtpeohfgadnfnpaaGreatDoorQ20
import Derived.Test.YtpeohfgadnfnpaaGreatDoorQ25
import Derived.Test.YtpeohfgadnfnpaaGreatDoorQ24
import Derived.Test.YtpeohfgadnfnpaaGreatDoorQ26
import Derived.Test.YtpeohfgadnfnpaaGreatDoorQ23
/-
  DERIVED. Layer 4: a statement read word by word of its kind's form; how many statements so many tokens hold; nothing of the program in it.
-/
namespace Go.Proofs.YtpeohfgadnfnpaaGreatDoor
open Go

theorem obind_bind {α β γ : Type} (r : RS α) (k : α → Nat → RS β) (h : β → Nat → Option (RS γ)) : RS.obind (some (r.bind k)) h = RS.obind (some r) (fun a j => RS.obind (some (k a j)) h) := by cases r <;> rfl
theorem obind_assoc {α β γ : Type} (r : Option (RS α)) (k : α → Nat → Option (RS β)) (h : β → Nat → Option (RS γ)) : RS.obind (RS.obind r k) h = RS.obind r (fun a j => RS.obind (k a j) h) := by
  rcases r with _ | ⟨a, q⟩ | ⟨e, p⟩ <;> rfl
theorem obind_unit {α : Type} (r : Option (RS α)) : RS.obind r (fun a j => some (.ok a j)) = r := by
  rcases r with _ | ⟨a, q⟩ | ⟨e, p⟩ <;> rfl
/-- What a word of a form reads. -/
def wordP (row : Rows4) (L : List Tok) (d l : Nat) (wd : List UInt8) (o : One) (i : Nat) : Option (RS One) :=
  if wd = [114] then RS.obind (some (nameP L i)) fun r j => some (.ok ⟨{ o.s with reg := r }, o.b, o.e⟩ j)
  else if wd = [110] then RS.obind (some (nameP L i)) fun r j => some (.ok ⟨{ o.s with name := r }, o.b, o.e⟩ j)
  else if wd = [101] then RS.obind (some (exprP L i)) fun r j => some (.ok ⟨{ o.s with e := r }, o.b, o.e⟩ j)
  else if wd = [102] then RS.obind (some (exprP L i)) fun r j => some (.ok ⟨{ o.s with f := r }, o.b, o.e⟩ j)
  else if wd = [107] then RS.obind (some (timesP L i)) fun r j => some (.ok ⟨{ o.s with n := r }, o.b, o.e⟩ j)
  else if wd = [98] then RS.obind (blockW row L i (d + 1) (inL o.s.kind.toNat l)) fun b j => RS.obind (elseW4 row L o.s.kind.toNat j (d + 1) (inL o.s.kind.toNat l)) fun e j => some (.ok ⟨{ o.s with body := b.count, els := e.count }, b, e⟩ j)
  else RS.obind (some (mustP L i wd)) fun _ j => some (.ok o j)
def wordsP (row : Rows4) (L : List Tok) (d l : Nat) : List (List UInt8) → One → Nat → Option (RS One)
  | [], o, i => some (.ok o i)
  | wd :: ws, o, i => RS.obind (wordP row L d l wd o i) (fun o j => wordsP row L d l ws o j)
theorem mustP_is {L : List Tok} {i : Nat} {s : List UInt8} (h : isB L i s = true) : mustP L i s = .ok () (i + 1) := by unfold mustP; rw [if_pos h]
set_option maxHeartbeats 4000000 in
theorem words_one (row : Rows4) (L : List Tok) (i d l : Nat) (h : ¬ (kindAt L i = 13 ∧ l = 0)) : wordsP row L d l (wordsK (kindAt L i)) ⟨stm0 (kindAt L i) (placeV L i), .nil, .nil⟩ i = oneW row L i d l := by
  unfold oneW
  rw [if_neg h]
  rcases kind_spec L i with hk | ⟨h1, h2, h3⟩
  · rw [hk]
    simp [wordsK, wordsTab, wordsP, wordP, plainP, obind_bind, obind_assoc, stm0, blkK]
  · generalize kindAt L i = k at *
    have : k = 2 ∨ k = 3 ∨ k = 4 ∨ k = 5 ∨ k = 6 ∨ k = 7 ∨ k = 8 ∨ k = 9 ∨ k = 10 ∨ k = 11 ∨ k = 12 ∨ k = 13 ∨ k = 14 := by omega
    rcases this with rfl | rfl | rfl | rfl | rfl | rfl | rfl | rfl | rfl | rfl | rfl | rfl | rfl <;>
    · simp only [kwTab, List.getD_cons_succ, List.getD_cons_zero] at h3
      have hm := mustP_is h3
      simp [wordsK, wordsTab, wordsP, wordP, plainP, obind_bind, obind_assoc, stm0, blkK, hm]

/-! ### Which kind begins at a place. -/
theorem named_kindAt {L : List Tok} {i : Nat} (h : namedB L i = true) : kindAt L i = 1 := by
  rcases kind_spec L i with hk | ⟨h1, h2, h3⟩
  · exact hk
  · exfalso
    obtain ⟨t, ht, hi, hp⟩ : ∃ t, L[i]? = some t ∧ i < L.length ∧ nameB t.text = true := by
      unfold namedB at h
      cases hn : nameAt L i with
      | none => rw [hn] at h; simp at h
      | some s =>
        have hl := (nameAt_lt hn).1
        refine ⟨L[i], List.getElem?_eq_getElem hl, hl, ?_⟩
        have h4 := (nameAt_lt hn).2
        unfold nameAt at hn
        rw [List.getElem?_eq_getElem hl] at hn
        simp only at hn
        split at hn
        · simp at hn; rw [hn]; exact h4
        · cases hn
    have h5 := isB_text h3 ht
    rw [h5] at hp
    have : ∀ k : Fin 15, 2 ≤ k.1 → nameB (kwTab.getD k.1 []) = false := by decide
    rw [this ⟨kindAt L i, by omega⟩ h1] at hp; cases hp
/-- The kind as the program tells it: 0, if there is none. -/
def kindZ (L : List Tok) (i l : Nat) : Nat := if kindAt L i = 1 then (if namedB L i = true then 1 else 0) else if kindAt L i = 13 ∧ l = 0 then 0 else kindAt L i
theorem kindZ_named {L : List Tok} {i : Nat} (l : Nat) (h : namedB L i = true) : kindZ L i l = 1 := by unfold kindZ; rw [if_pos (named_kindAt h), if_pos h]
/-- A kind's first word. -/
def firstW (k : Nat) : List UInt8 := if k = 1 then [114] else kwTab.getD k []
theorem kw_inj : ∀ a b : Fin 15, 2 ≤ a.1 → 2 ≤ b.1 → kwTab.getD a.1 [] = kwTab.getD b.1 [] → a = b := by decide
theorem kw_ne : ∀ a : Fin 15, 2 ≤ a.1 → kwTab.getD a.1 [] ≠ [] := by decide
theorem kindAt_is {L : List Tok} {i k : Nat} (h1 : 2 ≤ k) (h2 : k ≤ 14) (h : isB L i (kwTab.getD k []) = true) : kindAt L i = k := by
  rcases kind_spec L i with hk | ⟨g1, g2, g3⟩
  · exfalso
    unfold kindAt at hk
    cases hf : (List.range 15).find? (fun k => decide (2 ≤ k) && isB L i (kwTab.getD k [])) with
    | none =>
      have := List.find?_eq_none.1 hf k (List.mem_range.2 (by omega))
      simp only [h, Bool.and_true, decide_eq_true_eq] at this
      exact this h1
    | some m =>
      have h3 := List.find?_some hf
      rw [hf] at hk
      simp only [Bool.and_eq_true, decide_eq_true_eq] at h3
      simp only [Option.getD_some] at hk
      omega
  · have := kw_inj ⟨kindAt L i, by omega⟩ ⟨k, by omega⟩ g1 h1 (isB_one g3 h)
    simpa using this
theorem kindZ_found {L : List Tok} {i k l : Nat} (h1 : 2 ≤ k) (h2 : k ≤ 14) (h : isB L i (kwTab.getD k []) = true) : kindZ L i l = if k = 13 ∧ l = 0 then 0 else k := by
  have hk := kindAt_is h1 h2 h
  unfold kindZ
  rw [hk, if_neg (by omega)]
theorem kindZ_none {L : List Tok} {i l : Nat} (hn : namedB L i = false) (h : ∀ k, 2 ≤ k → k ≤ 14 → isB L i (kwTab.getD k []) = false) : kindZ L i l = 0 := by
  unfold kindZ
  rcases kind_spec L i with hk | ⟨g1, g2, g3⟩
  · rw [if_pos hk, hn]; rfl
  · rw [h _ g1 g2] at g3; cases g3
theorem kindZ_empty {L : List Tok} {i l : Nat} (hn : namedB L i = false) (h : isB L i [] = true) : kindZ L i l = 0 := by
  refine kindZ_none hn fun k h1 h2 => ?_
  cases hb : isB L i (kwTab.getD k []) with
  | false => rfl
  | true => exact absurd (isB_one hb h) (kw_ne ⟨k, by omega⟩ h1)
theorem nameP_badR {L : List Tok} {i : Nat} (h : namedB L i = false) : nameP L i = badR L i 5 := by
  unfold namedB at h
  unfold nameP
  cases hn : nameAt L i with
  | none => rfl
  | some s => rw [hn] at h; simp at h
theorem kindZ_zero {row : Rows4} {L : List Tok} {i d l : Nat} (h : kindZ L i l = 0) : oneW row L i d l = some (badR L i 5) := by
  unfold kindZ at h
  unfold oneW
  rcases kind_spec L i with hk | ⟨g1, g2, g3⟩
  · rw [if_neg (by omega), if_pos hk, hk]
    rw [if_pos hk] at h
    cases hn : namedB L i with
    | true => rw [hn] at h; simp at h
    | false =>
      rw [plainP, if_pos rfl, nameP_badR hn]
      rfl
  · rw [if_neg (by omega)] at h
    split at h
    · rename_i hh; rw [if_pos hh]
    · omega
theorem kindZ_pos {L : List Tok} {i l : Nat} (h : kindZ L i l ≠ 0) : kindZ L i l = kindAt L i ∧ ¬ (kindAt L i = 13 ∧ l = 0) ∧ 1 ≤ kindAt L i ∧ kindAt L i ≤ 14 ∧ i < L.length := by
  have hr := kind_range L i
  unfold kindZ at h ⊢
  split at h
  · rename_i hk
    rw [if_pos hk]
    split at h
    · rename_i hn
      rw [if_pos hn, hk]
      refine ⟨rfl, by omega, by omega, by omega, ?_⟩
      unfold namedB at hn
      cases hx : nameAt L i with
      | none => rw [hx] at hn; simp at hn
      | some s => exact (nameAt_lt hx).1
    · exact absurd rfl h
  · rename_i hk
    rw [if_neg hk]
    split at h
    · exact absurd rfl h
    · rename_i hh
      rw [if_neg hh]
      rcases kind_spec L i with h1 | ⟨_, _, g3⟩
      · exact absurd h1 hk
      · exact ⟨rfl, hh, hr.1, hr.2, isB_lt g3⟩

/-! ### How many statements so many tokens hold. -/
def RowCount (row : Rows4) : Prop := ∀ i d l b j, row i d l = some (.ok b j) → i + b.count ≤ j
theorem mustP_to {L : List Tok} {i j : Nat} {s : List UInt8} {u : Unit} (h : mustP L i s = .ok u j) : j = i + 1 := by
  unfold mustP at h
  split at h
  · simp at h; exact h.symm
  · unfold badR at h; cases h
theorem block_count {row : Rows4} (hr : RowCount row) {L : List Tok} {i d l j : Nat} {b : Bk} (h : blockW row L i d l = some (.ok b j)) : i + b.count + 2 ≤ j := by
  unfold blockW at h
  split at h
  · unfold badR at h; cases h
  · rcases RS.obind_some h with ⟨_, j1, h1, h2⟩ | ⟨e, p, h1, h2⟩
    · have a1 := mustP_to (Option.some.inj h1)
      rcases RS.obind_some h2 with ⟨b', j2, h3, h4⟩ | ⟨e, p, h3, h4⟩
      · have a2 := hr _ _ _ _ _ h3
        rcases RS.obind_some h4 with ⟨_, j3, h5, h6⟩ | ⟨e, p, h5, h6⟩
        · have a3 := mustP_to (Option.some.inj h5)
          simp only [Option.some.injEq, RS.ok.injEq] at h6
          obtain ⟨rfl, rfl⟩ := h6
          omega
        · cases h6
      · cases h4
    · cases h2
theorem else_count {row : Rows4} (hr : RowCount row) {L : List Tok} {k i d l j : Nat} {b : Bk} (h : elseW4 row L k i d l = some (.ok b j)) : i + b.count ≤ j := by
  unfold elseW4 at h
  split at h
  · have := block_count hr h; omega
  · simp only [Option.some.injEq, RS.ok.injEq] at h
    obtain ⟨rfl, rfl⟩ := h
    exact Nat.le_refl _
theorem one_count {row : Rows4} (hr : RowCount row) {L : List Tok} {i d l j : Nat} {o : One} (h : oneW row L i d l = some (.ok o j)) : i + 1 + o.b.count + o.e.count ≤ j := by
  unfold oneW at h
  split at h
  · unfold badR at h; cases h
  · have a1 := plainAt_ahead L i
    unfold plainAt at a1
    rcases RS.obind_some h with ⟨s, j1, h1, h2⟩ | ⟨e, p, h1, h2⟩
    · rw [Option.some.inj h1] at a1
      have b1 := a1.1
      split at h2
      · rcases RS.obind_some h2 with ⟨_, j2, h3, h4⟩ | ⟨e, p, h3, h4⟩
        · have a3 := mustP_to (Option.some.inj h3)
          simp only [Option.some.injEq, RS.ok.injEq] at h4
          obtain ⟨rfl, rfl⟩ := h4
          simp only [Bk.count]; omega
        · cases h4
      · rcases RS.obind_some h2 with ⟨b, j2, h3, h4⟩ | ⟨e, p, h3, h4⟩
        · have a2 := block_count hr h3
          rcases RS.obind_some h4 with ⟨e, j3, h5, h6⟩ | ⟨e, p, h5, h6⟩
          · have a3 := else_count hr h5
            simp only [Option.some.injEq, RS.ok.injEq] at h6
            obtain ⟨rfl, rfl⟩ := h6
            simp only; omega
          · cases h6
        · cases h4
    · cases h2
theorem row_count (L : List Tok) : ∀ f, RowCount (rowF L f) := by
  intro f
  induction f with
  | zero => intro i d l b j h; simp [rowF] at h
  | succ f ih =>
    intro i d l b j h
    rw [rowF_succ] at h
    split at h
    · simp only [Option.some.injEq, RS.ok.injEq] at h
      obtain ⟨rfl, rfl⟩ := h
      exact Nat.le_refl _
    · rcases RS.obind_some h with ⟨o, j1, h1, h2⟩ | ⟨e, p, h1, h2⟩
      · have a1 := one_count ih h1
        rcases RS.obind_some h2 with ⟨t, j2, h3, h4⟩ | ⟨e, p, h3, h4⟩
        · have a2 := ih _ _ _ _ _ h3
          simp only [Option.some.injEq, RS.ok.injEq] at h4
          obtain ⟨rfl, rfl⟩ := h4
          simp only [Bk.count]; omega
        · cases h4
      · cases h2
end Go.Proofs.YtpeohfgadnfnpaaGreatDoor
/-
  DERIVED. Layer 4: the contract of the reader's word (package stmt) at each word but a body.
-/
namespace Go.Proofs.YtpeohfgadnfnpaaGreatDoor
open Go.RowKit

/-- What a word that is no body reads. -/
def plainW (L : List Tok) (wd : List UInt8) (s : Stm) (i : Nat) : RS Stm :=
  if wd = [114] then (nameP L i).bind fun r j => .ok { s with reg := r } j
  else if wd = [110] then (nameP L i).bind fun r j => .ok { s with name := r } j
  else if wd = [101] then (exprP L i).bind fun r j => .ok { s with e := r } j
  else if wd = [102] then (exprP L i).bind fun r j => .ok { s with f := r } j
  else if wd = [107] then (timesP L i).bind fun r j => .ok { s with n := r } j
  else (mustP L i wd).bind fun _ j => .ok s j
theorem obind_some_bind {α β γ : Type} (r : RS α) (k : α → Nat → RS β) (h : β → Nat → Option (RS γ)) (h' : α → Nat → Option (RS γ)) (hh : ∀ a j, h' a j = RS.obind (some (k a j)) h) : RS.obind (some r) h' = RS.obind (some (r.bind k)) h := by
  cases r with
  | ok a j => exact hh a j
  | bad e p => rfl
theorem wordP_plain (row : Rows4) (L : List Tok) (d l : Nat) {wd : List UInt8} (o : One) (i : Nat) (h : wd ≠ [98]) : wordP row L d l wd o i = RS.obind (some (plainW L wd o.s i)) fun s j => some (.ok ⟨s, o.b, o.e⟩ j) := by
  unfold wordP plainW
  split
  · exact obind_some_bind _ _ _ _ fun _ _ => rfl
  split
  · exact obind_some_bind _ _ _ _ fun _ _ => rfl
  split
  · exact obind_some_bind _ _ _ _ fun _ _ => rfl
  split
  · exact obind_some_bind _ _ _ _ fun _ _ => rfl
  split
  · exact obind_some_bind _ _ _ _ fun _ _ => rfl
  exact obind_some_bind _ _ _ _ fun _ _ => rfl
/-- The reader, and a statement that is being read, in a block beside it. -/
structure Stx (L : List Tok) (W0 : World) (g : Nat) (lv : Value) (i d l m : Nat) (pl : Int) (K : List Sv) (kv : Value) (b : Nat) (x : Sv) (w : World) : Prop where
  st : St4 L W0 g lv i d l m pl K kv w
  blk : w.heap[b]? = some (.cells (svCells x).toArray 31 (0, 0))
  re : ReadE W0.heap.size w x.vE x.s.e
  rf : ReadE W0.heap.size w x.vF x.s.f
  sd : Aside4 W0 g kv b
section
variable {L : List Tok} {W0 : World} {g : Nat} {lv : Value} {i d l m : Nat} {pl : Int} {K : List Sv} {kv : Value} {w : World} {b : Nat} {x : Sv}
theorem Reads.ret {α : Type} {r : RS α} {ok : α → Nat → World → Prop} {P : Nat → Prop} {e : Ending} {w' : World} (h : Reads r ok g lv P w e w') : ∃ n, e = .returned (.int .i64 n) := by
  unfold Reads at h
  split at h
  · exact ⟨_, h.1⟩
  · exact ⟨_, h.1⟩
theorem Reads.bind {α β : Type} {r : RS α} {ok : α → Nat → World → Prop} {ok' : β → Nat → World → Prop} {P : Nat → Prop} {e : Ending} {w' : World} {f : α → β} (h : Reads r ok g lv P w e w') (hk : ∀ a j, KeepP P w w' → ok a j w' → ok' (f a) j w') : Reads (r.bind fun a j => .ok (f a) j) ok' g lv P w e w' := by
  cases r with
  | ok a j => exact ⟨h.1, hk a j h.2.2 h.2.1, h.2.2⟩
  | bad er p => exact h
abbrev SvOk (L : List Tok) (W0 : World) (g : Nat) (lv : Value) (d l m : Nat) (K : List Sv) (kv : Value) (b : Nat) : Stm → Nat → World → Prop := fun s j w' => ∃ vE vF pl', Stx L W0 g lv j d l m pl' K kv b ⟨s, vE, vF⟩ w'
abbrev WordOk (L : List Tok) (W0 : World) (g : Nat) (lv : Value) (i d l m : Nat) (K : List Sv) (kv : Value) (b : Nat) (s : Stm) (wd : List UInt8) (w : World) : Ending → World → Prop :=
  Reads (plainW L wd s i) (SvOk L W0 g lv d l m K kv b) g lv (fun k => k = g ∨ k = b) w
theorem Stx.nodes (h : Stx L W0 g lv i d l m pl K kv b x w) : ∀ q cs fr, w.heap[q]? = some (.cells cs 33 fr) → ¬ (q = g ∨ q = b) := beside_nodes h.st h.blk
set_option maxRecDepth 100000 in
set_option maxHeartbeats 4000000 in
theorem word_reg (hs : Src L W0 lv) (h : Stx L W0 g lv i d l m pl K kv b x w) : Calls Tryz.prog 73 #[.pointer (some ⟨g, 0, none⟩), .string ⟨#[114]⟩, .pointer (some ⟨b, 0, none⟩)] w (WordOk L W0 g lv i d l m K kv b x.s [114] w) := by
  have HC := Lib.hid hs
  have HX := Lib.hid h
  have hlt := (Array.getElem?_eq_some_iff.1 h.blk).1
  clear h hs
  go_enter Tryz.func73, Tryz.ntmps73
  go_wp2_with fail
  refine (name4 HC.out HX.out.st HX.out.blk HX.out.sd (j := 1) (old := .string ⟨x.s.reg.toArray⟩) rfl).mono ?_
  intro e w1 hr
  have HF : Hid (WordOk L W0 g lv i d l m K kv b x.s [114] w e w1) := Lib.hid (hr.bind (f := fun r => ({ x.s with reg := r } : Stm)) fun a j hk ho => ⟨x.vE, x.vF, pl, ho.1, ho.2, HX.out.re.keep hk HX.out.nodes, HX.out.rf.keep hk HX.out.nodes, HX.out.sd⟩)
  obtain ⟨n, rfl⟩ := hr.ret
  clear hr
  go_wp2_with fail
  go_ret
  exact HF.out
set_option maxRecDepth 100000 in
set_option maxHeartbeats 4000000 in
theorem word_name (hs : Src L W0 lv) (h : Stx L W0 g lv i d l m pl K kv b x w) : Calls Tryz.prog 73 #[.pointer (some ⟨g, 0, none⟩), .string ⟨#[110]⟩, .pointer (some ⟨b, 0, none⟩)] w (WordOk L W0 g lv i d l m K kv b x.s [110] w) := by
  have HC := Lib.hid hs
  have HX := Lib.hid h
  have hlt := (Array.getElem?_eq_some_iff.1 h.blk).1
  clear h hs
  go_enter Tryz.func73, Tryz.ntmps73
  go_wp2_with fail
  refine (name4 HC.out HX.out.st HX.out.blk HX.out.sd (j := 2) (old := .string ⟨x.s.name.toArray⟩) rfl).mono ?_
  intro e w1 hr
  have HF : Hid (WordOk L W0 g lv i d l m K kv b x.s [110] w e w1) := Lib.hid (hr.bind (f := fun r => ({ x.s with name := r } : Stm)) fun a j hk ho => ⟨x.vE, x.vF, pl, ho.1, ho.2, HX.out.re.keep hk HX.out.nodes, HX.out.rf.keep hk HX.out.nodes, HX.out.sd⟩)
  obtain ⟨n, rfl⟩ := hr.ret
  clear hr
  go_wp2_with fail
  go_ret
  exact HF.out
set_option maxRecDepth 100000 in
set_option maxHeartbeats 4000000 in
theorem word_first (hs : Src L W0 lv) (h : Stx L W0 g lv i d l m pl K kv b x w) : Calls Tryz.prog 73 #[.pointer (some ⟨g, 0, none⟩), .string ⟨#[101]⟩, .pointer (some ⟨b, 0, none⟩)] w (WordOk L W0 g lv i d l m K kv b x.s [101] w) := by
  have HC := Lib.hid hs
  have HX := Lib.hid h
  have hlt := (Array.getElem?_eq_some_iff.1 h.blk).1
  clear h hs
  go_enter Tryz.func73, Tryz.ntmps73
  go_wp2_with fail
  refine (expr4 HC.out HX.out.st HX.out.blk HX.out.sd (j := 3) (old := x.vE) rfl).mono ?_
  intro e w1 hr
  have HF : Hid (WordOk L W0 g lv i d l m K kv b x.s [101] w e w1) := Lib.hid (hr.bind (f := fun r => ({ x.s with e := r } : Stm)) fun a j hk ho => by
    obtain ⟨v, h1, h2, h3⟩ := ho
    exact ⟨v, x.vF, pl, h1, h2, h3, HX.out.rf.keep hk HX.out.nodes, HX.out.sd⟩)
  obtain ⟨n, rfl⟩ := hr.ret
  clear hr
  go_wp2_with fail
  go_ret
  exact HF.out
set_option maxRecDepth 100000 in
set_option maxHeartbeats 4000000 in
theorem word_second (hs : Src L W0 lv) (h : Stx L W0 g lv i d l m pl K kv b x w) : Calls Tryz.prog 73 #[.pointer (some ⟨g, 0, none⟩), .string ⟨#[102]⟩, .pointer (some ⟨b, 0, none⟩)] w (WordOk L W0 g lv i d l m K kv b x.s [102] w) := by
  have HC := Lib.hid hs
  have HX := Lib.hid h
  have hlt := (Array.getElem?_eq_some_iff.1 h.blk).1
  clear h hs
  go_enter Tryz.func73, Tryz.ntmps73
  go_wp2_with fail
  refine (expr4 HC.out HX.out.st HX.out.blk HX.out.sd (j := 4) (old := x.vF) rfl).mono ?_
  intro e w1 hr
  have HF : Hid (WordOk L W0 g lv i d l m K kv b x.s [102] w e w1) := Lib.hid (hr.bind (f := fun r => ({ x.s with f := r } : Stm)) fun a j hk ho => by
    obtain ⟨v, h1, h2, h3⟩ := ho
    exact ⟨x.vE, v, pl, h1, h2, HX.out.re.keep hk HX.out.nodes, h3, HX.out.sd⟩)
  obtain ⟨n, rfl⟩ := hr.ret
  clear hr
  go_wp2_with fail
  go_ret
  exact HF.out
set_option maxRecDepth 100000 in
set_option maxHeartbeats 4000000 in
theorem word_rounds (hs : Src L W0 lv) (h : Stx L W0 g lv i d l m pl K kv b x w) : Calls Tryz.prog 73 #[.pointer (some ⟨g, 0, none⟩), .string ⟨#[107]⟩, .pointer (some ⟨b, 0, none⟩)] w (WordOk L W0 g lv i d l m K kv b x.s [107] w) := by
  have HC := Lib.hid hs
  have HX := Lib.hid h
  have hlt := (Array.getElem?_eq_some_iff.1 h.blk).1
  clear h hs
  go_enter Tryz.func73, Tryz.ntmps73
  go_wp2_with fail
  refine (rounds4 HC.out HX.out.st HX.out.blk HX.out.sd (j := 5) (old := .int .i64 x.s.n) rfl).mono ?_
  intro e w1 hr
  have HF : Hid (WordOk L W0 g lv i d l m K kv b x.s [107] w e w1) := Lib.hid (hr.bind (f := fun r => ({ x.s with n := r } : Stm)) fun a j hk ho => ⟨x.vE, x.vF, pl, ho.1, ho.2, HX.out.re.keep hk HX.out.nodes, HX.out.rf.keep hk HX.out.nodes, HX.out.sd⟩)
  obtain ⟨n, rfl⟩ := hr.ret
  clear hr
  go_wp2_with fail
  go_ret
  exact HF.out
theorem Stx.keepg (h : Stx L W0 g lv i d l m pl K kv b x w) {w' : World} {i' : Nat} {pl' : Int} (hs : St4 L W0 g lv i' d l m pl' K kv w') (hk : KeepP (fun k => k = g) w w') : Stx L W0 g lv i' d l m pl' K kv b x w' := by
  have hlt := (Array.getElem?_eq_some_iff.1 h.blk).1
  have hn : ∀ q cs fr, w.heap[q]? = some (.cells cs 33 fr) → ¬ (q = g) := fun q cs fr hh e => h.nodes q cs fr hh (.inl e)
  exact ⟨hs, by rw [hk.block b hlt h.sd.ne]; exact h.blk, h.re.keep hk hn, h.rf.keep hk hn, h.sd⟩
theorem KeepP.orb {P Q : Nat → Prop} {w w' : World} (h : KeepP P w w') : KeepP (fun k => P k ∨ Q k) w w' := h.mono fun _ _ h => .inl h
set_option maxRecDepth 100000 in
set_option maxHeartbeats 4000000 in
theorem word_must (hs : Src L W0 lv) (h : Stx L W0 g lv i d l m pl K kv b x w) {wd : List UInt8} (n1 : wd ≠ [114]) (n2 : wd ≠ [110]) (n3 : wd ≠ [101]) (n4 : wd ≠ [102]) (n5 : wd ≠ [107]) (n6 : wd ≠ [98]) : Calls Tryz.prog 73 #[.pointer (some ⟨g, 0, none⟩), .string ⟨wd.toArray⟩, .pointer (some ⟨b, 0, none⟩)] w (WordOk L W0 g lv i d l m K kv b x.s wd w) := by
  have HC := Lib.hid hs
  have HX := Lib.hid h
  have e1 : (wd == [114]) = false := beq_eq_false_iff_ne.2 n1
  have e2 : (wd == [110]) = false := beq_eq_false_iff_ne.2 n2
  have e3 : (wd == [101]) = false := beq_eq_false_iff_ne.2 n3
  have e4 : (wd == [102]) = false := beq_eq_false_iff_ne.2 n4
  have e5 : (wd == [107]) = false := beq_eq_false_iff_ne.2 n5
  have e6 : (wd == [98]) = false := beq_eq_false_iff_ne.2 n6
  have hpw : plainW L wd x.s i = (mustP L i wd).bind fun _ j => .ok x.s j := by unfold plainW; rw [if_neg n1, if_neg n2, if_neg n3, if_neg n4, if_neg n5]
  have hgl := h.st.lt
  have c0 := h.st.c0
  have c1 := h.st.c1
  have f1 := h.st.fz 1
  have hlen := hs.len
  clear h hs n1 n2 n3 n4 n5 n6
  cases hq : isB L i wd with
  | false =>
    have HI := Lib.hid hq
    obtain ⟨er, her⟩ : ∃ er : Int, (if i < L.length then 5 else 6) = er := ⟨_, rfl⟩
    have HER := Lib.hid her
    have HP : Hid (plainW L wd x.s i = .bad er (placeV L i)) := Lib.hid (by rw [hpw]; unfold mustP badR; rw [if_neg (by rw [hq]; simp), her]; rfl)
    clear hq her hpw
    go_enter Tryz.func73, Tryz.ntmps73
    go_wp2_with fail
    go_region_held3 (fun w' => w'.cell? ⟨g, 0, none⟩ = some lv ∧ w'.cell? ⟨g, 1, none⟩ = some (.int .i64 i) ∧ Below w.heap.size w w')
      (first | exact ⟨c0, c1, Below.refl _ _⟩ | exact ⟨c0, c1, below_dr _⟩ | exact kept2 (w1 := w.drew) hgl ⟨c0, c1, below_dr _⟩ hb1)
      (first | (go_at_call 48; refine (is_at HI.out lv _ ((HX.out.st.on (below_dr _)).toks HC.out)).mono ?_; rintro e w1 ⟨rfl, hb1⟩))
    have HB := Lib.hid (below_then (below_dr w) hb1)
    have HS1 := Lib.hid (HX.out.st.on HB.out)
    have HK1 := Lib.hid (KeepP.of (P := fun k => k = g ∨ k = b) HB.out)
    clear hb1 c0 c1
    go_wp2_with fail
    refine (wrong4 HC.out HS1.out).mono ?_
    rw [HER.out]
    intro e w2 hf
    have HF := Lib.hid (hf.reads (ok := SvOk L W0 g lv d l m K kv b) HP.out HK1.out (.inl rfl))
    obtain ⟨rfl, _, _⟩ := hf
    go_wp2_with fail
    go_ret
    exact HF.out
  | true =>
    have HI := Lib.hid hq
    have HP : Hid (plainW L wd x.s i = .ok x.s (i + 1)) := Lib.hid (by rw [hpw, mustP_is hq]; rfl)
    have hil := isB_lt hq
    clear hq hpw
    go_enter Tryz.func73, Tryz.ntmps73
    go_wp2_with fail
    go_region_held3 (fun w' => w'.cell? ⟨g, 0, none⟩ = some lv ∧ w'.cell? ⟨g, 1, none⟩ = some (.int .i64 i) ∧ Below w.heap.size w w')
      (first | exact ⟨c0, c1, Below.refl _ _⟩ | exact ⟨c0, c1, below_dr _⟩ | exact kept2 (w1 := w.drew) hgl ⟨c0, c1, below_dr _⟩ hb1)
      (first | (go_at_call 48; refine (is_at HI.out lv _ ((HX.out.st.on (below_dr _)).toks HC.out)).mono ?_; rintro e w1 ⟨rfl, hb1⟩))
    have HB := Lib.hid (below_then (below_dr w) hb1)
    have HS1 := Lib.hid (HX.out.st.on HB.out)
    clear hb1 c0 c1 hgl f1
    have hgl := HS1.out.lt
    have c1 := HS1.out.c1
    have f1 := HS1.out.fz 1
    have hw1 : IntKind.i64.wrap ((i : Int) + 1) = (i : Int) + 1 := IntWalk.i64_in _ (by omega)
    go_wp2_with fail
    go_ret
    show Reads _ _ _ _ _ _ _ _
    rw [HP.out]
    have hmi := HS1.out.mi
    have hk := (KeepP.of (P := fun k => k = g) HB.out).trans (KeepP.set (g := g) (j := 1) (v := .int .i64 ((i + 1 : Nat) : Int))) (fun _ _ h => h) (fun _ _ h => h)
    exact ⟨rfl, ⟨x.vE, x.vF, pl, HX.out.keepg (HS1.out.set1 (j := i + 1) (by omega) (by omega)) hk⟩, hk.orb⟩
/-- A word that is no body. -/
theorem word_plain4 (hs : Src L W0 lv) (h : Stx L W0 g lv i d l m pl K kv b x w) {wd : List UInt8} (hb : wd ≠ [98]) : Calls Tryz.prog 73 #[.pointer (some ⟨g, 0, none⟩), .string ⟨wd.toArray⟩, .pointer (some ⟨b, 0, none⟩)] w (WordOk L W0 g lv i d l m K kv b x.s wd w) := by
  by_cases n1 : wd = [114]
  · subst n1; exact word_reg hs h
  by_cases n2 : wd = [110]
  · subst n2; exact word_name hs h
  by_cases n3 : wd = [101]
  · subst n3; exact word_first hs h
  by_cases n4 : wd = [102]
  · subst n4; exact word_second hs h
  by_cases n5 : wd = [107]
  · subst n5; exact word_rounds hs h
  exact word_must hs h n1 n2 n3 n4 n5 hb
end
end Go.Proofs.YtpeohfgadnfnpaaGreatDoor
