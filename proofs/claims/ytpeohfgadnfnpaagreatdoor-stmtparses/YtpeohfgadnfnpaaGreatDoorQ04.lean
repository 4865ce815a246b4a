/-
  DERIVED. Texts of the walk, packed: Read, Node.
-/
import Derived.Test.YtpeohfgadnfnpaaGreatDoorQ02
import Derived.Test.YtpeohfgadnfnpaaGreatDoorQ03
/-
  DERIVED. Layer 3: the plain mathematics of the reader of expressions; nothing of the program in it.
-/
namespace Go.Proofs.YtpeohfgadnfnpaaGreatDoor

/-- The signs, and how much they bind, by operator. -/
def signsTab : List (List UInt8) := [[], [], [], [45], [33], [43], [45], [42], [47], [37], [61, 61], [33, 61], [60], [60, 61], [38, 38], [124, 124]]
def bindsTab : List Int := [0, 0, 0, 6, 6, 4, 4, 5, 5, 5, 3, 3, 3, 3, 2, 1]
def signT (op : Nat) : List UInt8 := signsTab.getD op []
def bindT (op : Nat) : Int := bindsTab.getD op 0
/-- The operator that stands at a place and binds so much; 0, if there is none. -/
def signAt (L : List Tok) (b : Nat) (i : Nat) : Nat := ((List.range 16).find? (fun op => bindT op == (b : Int) && isB L i (signT op))).getD 0
def plAt (L : List Tok) (i : Nat) : Int := match L[i]? with
  | some t => t.pl
  | none => 0
/-- What reading comes to: an expression and the place behind it, or an error at a token. -/
inductive Res where
  | ok (x : Ex) (to : Nat)
  | bad (e : Int) (j : Nat)
deriving DecidableEq
def wrongV (L : List Tok) (j : Nat) : Res := .bad (if L.length ≤ j then 6 else 5) j
def leafR (L : List Tok) (i : Nat) : Res := match L[i]? with
  | none => .bad 6 i
  | some t => if t.kind = 2 then .ok (.leaf ⟨1, t.n, [], t.pl⟩) (i + 1) else if t.kind = 1 ∧ nameB t.text = true then .ok (.leaf ⟨2, 0, t.text, t.pl⟩) (i + 1) else .bad 5 i
def signN (L : List Tok) (b i : Nat) : Nod := ⟨signAt L b i, 0, [], plAt L i⟩
mutual
def chainF (L : List Tok) : Nat → Nat → Nat → Nat → Option Res
  | 0, _, _, _ => none
  | f + 1, b, i, d => if b = 6 then singleF L f i d else match chainF L f (b + 1) i d with
    | some (.ok x to) => loopF L f b x to d
    | some (.bad e j) => some (.bad e j)
    | none => none
def loopF (L : List Tok) : Nat → Nat → Ex → Nat → Nat → Option Res
  | 0, _, _, _, _ => none
  | f + 1, b, x, i, d => if signAt L b i = 0 then some (.ok x i) else match chainF L f (b + 1) (i + 1) d with
    | some (.ok y to) => if b = 3 then some (.ok (.bin (signN L b i) x y) to) else loopF L f b (.bin (signN L b i) x y) to d
    | some (.bad e j) => some (.bad e j)
    | none => none
def singleF (L : List Tok) : Nat → Nat → Nat → Option Res
  | 0, _, _ => none
  | f + 1, i, d => if isB L i [40] = true then (if d = 12 then some (.bad 7 i) else match chainF L f 1 (i + 1) (d + 1) with
      | some (.ok x to) => if isB L to [41] = true then some (.ok x (to + 1)) else some (wrongV L to)
      | some (.bad e j) => some (.bad e j)
      | none => none)
    else if signAt L 6 i = 0 then some (leafR L i) else if d = 12 then some (.bad 7 i) else match singleF L f (i + 1) (d + 1) with
      | some (.ok x to) => some (.ok (.un (signN L 6 i) x) to)
      | some (.bad e j) => some (.bad e j)
      | none => none
end

/-! ### Signs. -/
theorem signAt_spec {L : List Tok} {b i : Nat} (h : signAt L b i ≠ 0) : signAt L b i < 16 ∧ bindT (signAt L b i) = b ∧ isB L i (signT (signAt L b i)) = true := by
  unfold signAt at *
  cases hf : (List.range 16).find? (fun op => bindT op == (b : Int) && isB L i (signT op)) with
  | none => rw [hf] at h; exact absurd rfl h
  | some op =>
    rw [hf] at h
    have h1 := List.find?_some hf
    have h2 := List.mem_of_find?_eq_some hf
    simp at h1 h2
    exact ⟨h2, h1.1, h1.2⟩
theorem signAt_none {L : List Tok} {b i : Nat} (hb : 1 ≤ b) (h : signAt L b i = 0) : ∀ op, op < 16 → bindT op = b → isB L i (signT op) = false := by
  intro op ho hbi
  unfold signAt at h
  cases hf : (List.range 16).find? (fun op => bindT op == (b : Int) && isB L i (signT op)) with
  | none =>
    rw [List.find?_eq_none] at hf
    have := hf op (by simpa using ho)
    simp [hbi] at this
    exact this
  | some op' =>
    rw [hf] at h
    simp at h; subst h
    have h1 := List.find?_some hf
    simp [bindT, bindsTab] at h1
    omega
theorem isB_lt {L : List Tok} {i : Nat} {s : List UInt8} (h : isB L i s = true) : i < L.length := by
  unfold isB at h
  by_cases hi : i < L.length
  · exact hi
  · rw [Int.toNat_natCast, List.getElem?_eq_none (by omega)] at h; simp at h
theorem signAt_lt {L : List Tok} {b i : Nat} (h : signAt L b i ≠ 0) : i < L.length := isB_lt (signAt_spec h).2.2
theorem bind_takes : ∀ op : Fin 16, (bindT op = 6 → takesN (op : Nat) = some 1) ∧ (∀ b : Fin 6, 1 ≤ b.1 → bindT op = (b.1 : Int) → takesN (op : Nat) = some 2) := by decide
theorem sign_one {L : List Tok} {i : Nat} (h : signAt L 6 i ≠ 0) : takesN (signAt L 6 i : Nat) = some 1 := by
  obtain ⟨h1, h2, _⟩ := signAt_spec h
  exact (bind_takes ⟨_, h1⟩).1 h2
theorem sign_two {L : List Tok} {b i : Nat} (hb : 1 ≤ b) (hb2 : b ≤ 5) (h : signAt L b i ≠ 0) : takesN (signAt L b i : Nat) = some 2 := by
  obtain ⟨h1, h2, _⟩ := signAt_spec h
  exact (bind_takes ⟨_, h1⟩).2 ⟨b, by omega⟩ hb h2

/-! ### What is read is whole; it goes on; its nodes are of tokens. -/
def NodOf (L : List Tok) (a : Nod) : Prop := ∃ t ∈ L, a.pl = t.pl ∧ ((t.kind = 2 ∧ a.op = 1 ∧ a.n = t.n ∧ a.name = []) ∨ (t.kind = 1 ∧ nameB t.text = true ∧ a.op = 2 ∧ a.n = 0 ∧ a.name = t.text) ∨ (3 ≤ a.op ∧ a.op ≤ 15 ∧ a.n = 0 ∧ a.name = []))
def Fine (L : List Tok) (i : Nat) (r : Res) : Prop := match r with
  | .ok x to => i < to ∧ to ≤ L.length ∧ x.ok ∧ x.size ≤ to - i ∧ ∀ a ∈ x.flat, NodOf L a
  | .bad e j => (e = 5 ∨ e = 6 ∨ e = 7) ∧ i ≤ j ∧ (j ≤ L.length ∨ j = i)
theorem nod_sign {L : List Tok} {b i : Nat} (h : signAt L b i ≠ 0) (ht : takesN (signAt L b i : Nat) ≠ some 0) : NodOf L (signN L b i) := by
  have hlt := signAt_lt h
  obtain ⟨h1, _, _⟩ := signAt_spec h
  have e : L[i]? = some L[i] := List.getElem?_eq_getElem hlt
  refine ⟨L[i], List.getElem_mem hlt, ?_, .inr (.inr ⟨?_, ?_, rfl, rfl⟩)⟩
  · show plAt L i = _
    unfold plAt; rw [e]
  · show (3 : Int) ≤ (signAt L b i : Nat)
    unfold takesN at ht
    split at ht
    · exact absurd rfl ht
    · omega
  · show ((signAt L b i : Nat) : Int) ≤ 15
    omega
theorem fine_leaf (L : List Tok) (i : Nat) : Fine L i (leafR L i) := by
  unfold leafR
  cases h : L[i]? with
  | none => exact ⟨.inr (.inl rfl), Nat.le_refl _, .inr rfl⟩
  | some t =>
    have hi := (List.getElem?_eq_some_iff.1 h).1
    have hm := List.mem_of_getElem? h
    simp only
    split
    · rename_i hk
      refine ⟨by omega, by omega, rfl, by simp [Ex.size], fun a ha => ?_⟩
      simp [Ex.flat] at ha; subst ha
      exact ⟨t, hm, rfl, .inl ⟨hk, rfl, rfl, rfl⟩⟩
    · split
      · rename_i hk
        refine ⟨by omega, by omega, rfl, by simp [Ex.size], fun a ha => ?_⟩
        simp [Ex.flat] at ha; subst ha
        exact ⟨t, hm, rfl, .inr (.inl ⟨hk.1, hk.2, rfl, rfl, rfl⟩)⟩
      · exact ⟨.inl rfl, Nat.le_refl _, .inr rfl⟩
theorem fine_wrong (L : List Tok) (i j : Nat) (h : i ≤ j) (h2 : j ≤ L.length) : Fine L i (wrongV L j) := by
  unfold wrongV
  show (_ ∨ _ ∨ _) ∧ _
  refine ⟨?_, h, .inl h2⟩
  split
  · exact .inr (.inl rfl)
  · exact .inl rfl
def FineL (L : List Tok) (i : Nat) (x : Ex) (j : Nat) : Prop := i < j ∧ j ≤ L.length ∧ x.ok ∧ x.size ≤ j - i ∧ ∀ a ∈ x.flat, NodOf L a
theorem fine_bin {L : List Tok} {b i j k : Nat} {x y : Ex} (hb : 1 ≤ b) (hb2 : b ≤ 5) (h : signAt L b j ≠ 0) (hx : FineL L i x j) (hy : Fine L (j + 1) (.ok y k)) : FineL L i (.bin (signN L b j) x y) k := by
  obtain ⟨h1, h2, h3, h4, h5⟩ := hx
  obtain ⟨g1, g2, g3, g4, g5⟩ := hy
  have ht := sign_two hb hb2 h
  refine ⟨by omega, g2, ⟨ht, h3, g3⟩, by simp [Ex.size]; omega, fun a ha => ?_⟩
  simp only [Ex.flat, List.mem_cons, List.mem_append] at ha
  rcases ha with rfl | ha | ha
  · exact nod_sign h (by rw [ht]; simp)
  · exact h5 a ha
  · exact g5 a ha
theorem fine_all (L : List Tok) : ∀ f : Nat, (∀ b i d r, 1 ≤ b → b ≤ 6 → chainF L f b i d = some r → Fine L i r) ∧ (∀ b x i j d r, 1 ≤ b → b ≤ 5 → FineL L i x j → loopF L f b x j d = some r → Fine L i r) ∧ (∀ i d r, singleF L f i d = some r → Fine L i r) := by
  intro f
  induction f with
  | zero => exact ⟨fun b i d r _ _ h => by simp [chainF] at h, fun b x i j d r _ _ _ h => by simp [loopF] at h, fun i d r h => by simp [singleF] at h⟩
  | succ f ih =>
    obtain ⟨ic, il, is⟩ := ih
    refine ⟨fun b i d r hb hb2 h => ?_, fun b x i j d r hb hb2 hx h => ?_, fun i d r h => ?_⟩
    · rw [chainF] at h
      split at h
      · exact is _ _ _ h
      · split at h
        · rename_i hc
          have := ic _ _ _ _ (by omega) (by omega) hc
          exact il _ _ _ _ _ _ hb (by omega) this h
        · rename_i hc
          simp at h; subst h
          exact ic _ _ _ _ (by omega) (by omega) hc
        · cases h
    · rw [loopF] at h
      split at h
      · simp at h; subst h; exact hx
      · rename_i hs
        split at h
        · rename_i hc
          have hy := ic _ _ _ _ (by omega) (by omega) hc
          have hxy := fine_bin hb hb2 hs hx hy
          split at h
          · simp at h; subst h; exact hxy
          · exact il _ _ _ _ _ _ hb hb2 hxy h
        · rename_i hc
          simp at h; subst h
          have hlt := signAt_lt hs
          obtain ⟨h1, h2, h3⟩ := ic _ _ _ _ (by omega) (by omega) hc
          have h4 := hx.1
          exact ⟨h1, by omega, by omega⟩
        · cases h
    · rw [singleF] at h
      split at h
      · rename_i ho
        have hlt := isB_lt ho
        split at h
        · simp at h; subst h; exact ⟨.inr (.inr rfl), Nat.le_refl _, .inr rfl⟩
        · split at h
          · rename_i hc
            obtain ⟨h1, h2, h3, h4, h5⟩ := ic _ _ _ _ (by omega) (by omega) hc
            split at h
            · rename_i hcl
              simp at h; subst h
              have := isB_lt hcl
              exact ⟨by omega, by omega, h3, by omega, h5⟩
            · simp at h; subst h; exact fine_wrong _ _ _ (by omega) h2
          · rename_i hc
            simp at h; subst h
            obtain ⟨h1, h2, h3⟩ := ic _ _ _ _ (by omega) (by omega) hc
            exact ⟨h1, by omega, by omega⟩
          · cases h
      · split at h
        · simp at h; subst h; exact fine_leaf _ _
        · rename_i hs
          split at h
          · simp at h; subst h; exact ⟨.inr (.inr rfl), Nat.le_refl _, .inr rfl⟩
          · split at h
            · rename_i hc
              simp at h; subst h
              obtain ⟨h1, h2, h3, h4, h5⟩ := is _ _ _ hc
              have ht := sign_one hs
              refine ⟨by omega, h2, ⟨ht, h3⟩, by simp [Ex.size]; omega, fun a ha => ?_⟩
              simp only [Ex.flat, List.mem_cons] at ha
              rcases ha with rfl | ha
              · exact nod_sign hs (by rw [ht]; simp)
              · exact h5 a ha
            · rename_i hc
              simp at h; subst h
              have hlt := signAt_lt hs
              obtain ⟨h1, h2, h3⟩ := is _ _ _ hc
              exact ⟨h1, by omega, by omega⟩
            · cases h

/-! ### There is always enough to go on with. -/
theorem total_all (L : List Tok) : ∀ f : Nat, (∀ b i d, 1 ≤ b → b ≤ 6 → 20 * (L.length - i) + 2 * (7 - b) ≤ f → ∃ r, chainF L f b i d = some r) ∧ (∀ b x j d, 1 ≤ b → b ≤ 5 → 20 * (L.length - j) + 1 ≤ f → ∃ r, loopF L f b x j d = some r) ∧ (∀ i d, 20 * (L.length - i) + 1 ≤ f → ∃ r, singleF L f i d = some r) := by
  intro f
  induction f with
  | zero => exact ⟨fun b i d _ _ h => by omega, fun b x j d _ _ h => by omega, fun i d h => by omega⟩
  | succ f ih =>
    obtain ⟨ic, il, is⟩ := ih
    refine ⟨fun b i d hb hb2 h => ?_, fun b x j d hb hb2 h => ?_, fun i d h => ?_⟩
    · rw [chainF]
      split
      · exact is _ _ (by omega)
      · obtain ⟨r, hr⟩ := ic (b + 1) i d (by omega) (by omega) (by omega)
        rw [hr]
        cases r with
        | ok x to =>
          obtain ⟨h1, h2, _⟩ := (fine_all L f).1 _ _ _ _ (by omega) (by omega) hr
          exact il _ _ _ _ hb (by omega) (by omega)
        | bad e j => exact ⟨_, rfl⟩
    · rw [loopF]
      split
      · exact ⟨_, rfl⟩
      · rename_i hs
        have hlt := signAt_lt hs
        obtain ⟨r, hr⟩ := ic (b + 1) (j + 1) d (by omega) (by omega) (by omega)
        rw [hr]
        cases r with
        | ok x to =>
          obtain ⟨h1, h2, _⟩ := (fine_all L f).1 _ _ _ _ (by omega) (by omega) hr
          simp only
          split
          · exact ⟨_, rfl⟩
          · exact il _ _ _ _ hb (by omega) (by omega)
        | bad e j => exact ⟨_, rfl⟩
    · rw [singleF]
      split
      · rename_i ho
        have hlt := isB_lt ho
        split
        · exact ⟨_, rfl⟩
        · obtain ⟨r, hr⟩ := ic 1 (i + 1) (d + 1) (by omega) (by omega) (by omega)
          rw [hr]
          cases r with
          | ok x to => simp only; split <;> exact ⟨_, rfl⟩
          | bad e j => exact ⟨_, rfl⟩
      · split
        · exact ⟨_, rfl⟩
        · rename_i hs
          have hlt := signAt_lt hs
          split
          · exact ⟨_, rfl⟩
          · obtain ⟨r, hr⟩ := is (i + 1) (d + 1) (by omega)
            rw [hr]
            cases r with
            | ok x to => exact ⟨_, rfl⟩
            | bad e j => exact ⟨_, rfl⟩

/-! ### More to go on with changes nothing. -/
theorem mono_one (L : List Tok) : ∀ f : Nat, (∀ b i d r, chainF L f b i d = some r → chainF L (f + 1) b i d = some r) ∧ (∀ b x j d r, loopF L f b x j d = some r → loopF L (f + 1) b x j d = some r) ∧ (∀ i d r, singleF L f i d = some r → singleF L (f + 1) i d = some r) := by
  intro f
  induction f with
  | zero => exact ⟨fun b i d r h => by simp [chainF] at h, fun b x j d r h => by simp [loopF] at h, fun i d r h => by simp [singleF] at h⟩
  | succ f ih =>
    obtain ⟨ic, il, is⟩ := ih
    refine ⟨fun b i d r h => ?_, fun b x j d r h => ?_, fun i d r h => ?_⟩
    · rw [chainF] at h ⊢
      split at h
      · rename_i hb; rw [if_pos hb]; exact is _ _ _ h
      · rename_i hb; rw [if_neg hb]
        split at h
        · rename_i hc; rw [ic _ _ _ _ hc]; exact il _ _ _ _ _ h
        · rename_i hc; rw [ic _ _ _ _ hc]; exact h
        · cases h
    · rw [loopF] at h ⊢
      split at h
      · rename_i hb; rw [if_pos hb]; exact h
      · rename_i hb; rw [if_neg hb]
        split at h
        · rename_i hc; rw [ic _ _ _ _ hc]
          simp only
          split at h
          · rename_i hq; rw [if_pos hq]; exact h
          · rename_i hq; rw [if_neg hq]; exact il _ _ _ _ _ h
        · rename_i hc; rw [ic _ _ _ _ hc]; exact h
        · cases h
    · rw [singleF] at h ⊢
      split at h
      · rename_i ho; rw [if_pos ho]
        split at h
        · rename_i hd; rw [if_pos hd]; exact h
        · rename_i hd; rw [if_neg hd]
          split at h
          · rename_i hc; rw [ic _ _ _ _ hc]; exact h
          · rename_i hc; rw [ic _ _ _ _ hc]; exact h
          · cases h
      · rename_i ho; rw [if_neg ho]
        split at h
        · rename_i hs; rw [if_pos hs]; exact h
        · rename_i hs; rw [if_neg hs]
          split at h
          · rename_i hd; rw [if_pos hd]; exact h
          · rename_i hd; rw [if_neg hd]
            split at h
            · rename_i hc; rw [is _ _ _ hc]; exact h
            · rename_i hc; rw [is _ _ _ hc]; exact h
            · cases h
theorem chain_mono {L : List Tok} {f g b i d : Nat} {r : Res} (hfg : f ≤ g) (h : chainF L f b i d = some r) : chainF L g b i d = some r := by
  induction g with
  | zero =>
    obtain rfl : f = 0 := (by omega)
    exact h
  | succ g ih =>
    by_cases e : f = g + 1
    · subst e; exact h
    · exact (mono_one L g).1 _ _ _ _ (ih (by omega))
theorem single_mono {L : List Tok} {f g i d : Nat} {r : Res} (hfg : f ≤ g) (h : singleF L f i d = some r) : singleF L g i d = some r := by
  induction g with
  | zero =>
    obtain rfl : f = 0 := (by omega)
    exact h
  | succ g ih =>
    by_cases e : f = g + 1
    · subst e; exact h
    · exact (mono_one L g).2.2 _ _ _ (ih (by omega))
theorem chain_same {L : List Tok} {f g b i d : Nat} {r q : Res} (h : chainF L f b i d = some r) (h2 : chainF L g b i d = some q) : r = q := by
  have h3 := chain_mono (Nat.le_max_left f g) h
  have h4 := chain_mono (Nat.le_max_right f g) h2
  rw [h3] at h4; exact Option.some.inj h4

/-! ### The whole. -/
def parseR (L : List Tok) (i : Nat) : Res := (chainF L (20 * (L.length - i) + 12) 1 i 0).getD (.bad 0 0)
theorem parseR_chain (L : List Tok) (i : Nat) : chainF L (20 * (L.length - i) + 12) 1 i 0 = some (parseR L i) := by
  obtain ⟨r, hr⟩ := (total_all L (20 * (L.length - i) + 12)).1 1 i 0 (by omega) (by omega) (by omega)
  unfold parseR; rw [hr]; rfl
theorem parseR_of {L : List Tok} {f i : Nat} {r : Res} (h : chainF L f 1 i 0 = some r) : parseR L i = r := chain_same (parseR_chain L i) h
theorem parseR_fine (L : List Tok) (i : Nat) : Fine L i (parseR L i) := (fine_all L _).1 _ _ _ _ (by omega) (by omega) (parseR_chain L i)
structure Parsed where
  nodes : List Nod
  to : Int
  err : Int
  pl : Int
deriving DecidableEq
def exprV (L : List Tok) (i : Int) : Parsed := if i < 0 then ⟨[], 0, 1, 0⟩ else match parseR L i.toNat with
  | .bad e j => ⟨[], 0, e, placeV L j⟩
  | .ok x to => if 12 < x.deep then ⟨[], 0, 7, placeV L i⟩ else if 40 < x.size then ⟨[], 0, 2, placeV L i⟩ else ⟨x.flat, to, 0, 0⟩
end Go.Proofs.YtpeohfgadnfnpaaGreatDoor
/-
  DERIVED. Layer 3: slices of nodes: those that are read, those that a call made itself; contracts of expr.takes and expr.End.
-/
namespace Go.Proofs.YtpeohfgadnfnpaaGreatDoor
open Go.RowKit

/-- The cells of a node, of nodes. -/
def nodCells (a : Nod) : List Value := [.int .i64 a.op, .int .i64 a.n, .string ⟨a.name.toArray⟩, .int .i64 a.pl]
def cellsN (L : List Nod) : List Value := L.flatMap nodCells
theorem cellsN_app (L M : List Nod) : cellsN (L ++ M) = cellsN L ++ cellsN M := by simp [cellsN]
theorem cellsN_one (a : Nod) : cellsN [a] = nodCells a := by simp [cellsN]
theorem cellsN_len (L : List Nod) : (cellsN L).length = L.length * 4 := by
  induction L with
  | nil => rfl
  | cons t L ih => unfold cellsN at *; rw [List.flatMap_cons, List.length_append, ih]; simp [nodCells]; omega
theorem cellsN_at : ∀ (L : List Nod) (i : Nat) (t : Nod) (j : Nat) (u : Value), L[i]? = some t → (nodCells t)[j]? = some u → (cellsN L)[i * 4 + j]? = some u
  | [], i, t, j, u, h, _ => by simp at h
  | a :: L, 0, t, j, u, h, hj => by
    simp at h; subst h
    unfold cellsN
    rw [List.flatMap_cons, List.getElem?_append_left (by have := (List.getElem?_eq_some_iff.1 hj).1; omega)]
    simpa using hj
  | a :: L, i + 1, t, j, u, h, hj => by
    have ih := cellsN_at L i t j u (by simpa using h) hj
    unfold cellsN at *
    rw [List.flatMap_cons, List.getElem?_append_right (by simp [nodCells]; omega)]
    rw [← ih]; congr 1; simp [nodCells]; omega
theorem cellsN_back : ∀ (L : List Nod) (j : Nat) (u : Value), (cellsN L)[j]? = some u → ∃ i t, L[i]? = some t ∧ j = i * 4 + j % 4 ∧ (nodCells t)[j % 4]? = some u
  | [], j, u, h => by simp [cellsN] at h
  | a :: L, j, u, h => by
    unfold cellsN at h
    rw [List.flatMap_cons] at h
    by_cases hj : j < 4
    · rw [List.getElem?_append_left (by simpa [nodCells] using hj)] at h
      exact ⟨0, a, rfl, by omega, by rw [Nat.mod_eq_of_lt hj]; exact h⟩
    · rw [List.getElem?_append_right (by simp [nodCells]; omega)] at h
      have e : j - (nodCells a).length = j - 4 := by simp [nodCells]
      rw [e] at h
      obtain ⟨i, t, h1, h2, h3⟩ := cellsN_back L (j - 4) u h
      refine ⟨i + 1, t, by simpa using h1, by omega, ?_⟩
      rw [show j % 4 = (j - 4) % 4 from by omega]; exact h3
theorem nod_one (L : List Nod) : ∀ u ∈ cellsN L, u.oneCell' = true := by
  intro u hu
  unfold cellsN at hu
  rw [List.mem_flatMap] at hu
  obtain ⟨a, _, ha⟩ := hu
  simp [nodCells] at ha
  rcases ha with rfl | rfl | rfl | rfl <;> rfl
/-- A slice that the call made itself, and that holds just these nodes. -/
def OwnN (w : World) (B : Nat) (v : Value) (L : List Nod) : Prop := w.ownsRow B 33 4 v L.length (cellsN L)
/-- A slice that reads as these nodes, and lies in old memory. -/
def ReadN (w : World) (v : Value) (L : List Nod) : Prop :=
  ∃ A c, v = .slice A L.length c ∧ L.length ≤ c ∧ c ≤ maxLen ∧ (∀ i t, L[i]? = some t → ∃ g o, A = some ⟨g, o, none⟩ ∧ g < w.heap.size ∧
    w.cell? ⟨g, o + i * 4, none⟩ = some (.int .i64 t.op) ∧ w.cell? ⟨g, o + i * 4 + 1, none⟩ = some (.int .i64 t.n) ∧ w.cell? ⟨g, o + i * 4 + 2, none⟩ = some (.string ⟨t.name.toArray⟩) ∧ w.cell? ⟨g, o + i * 4 + 3, none⟩ = some (.int .i64 t.pl))
theorem OwnN.read {w : World} {B : Nat} {v : Value} {L : List Nod} (h : OwnN w B v L) : ReadN w v L := by
  rcases h.2 with ⟨rfl, h0⟩ | ⟨g, cap, cur, rfl, hB, hh, hn, hm, hs, hc⟩
  · have : L = [] := List.length_eq_zero_iff.1 h0
    subst this
    exact ⟨none, 0, rfl, Nat.le_refl _, Nat.zero_le _, fun i t h => by simp at h⟩
  · refine ⟨_, cap, rfl, hn, hm, fun i t hi => ⟨g, 0, rfl, (Array.getElem?_eq_some_iff.1 hh).1, ?_⟩⟩
    have key : ∀ j u, (nodCells t)[j]? = some u → w.cell? ⟨g, 0 + i * 4 + j, none⟩ = some u := by
      intro j u hj
      have h1 := cellsN_at L i t j u hi hj
      have hlt := (List.getElem?_eq_some_iff.1 h1).1
      rw [cellsN_len] at hlt
      rw [cell_of_row w g _ cur 33 (0, 0) hh]
      rw [← hc, List.getElem?_take, if_pos (by omega)] at h1
      simpa using h1
    exact ⟨key 0 _ rfl, key 1 _ rfl, key 2 _ rfl, key 3 _ rfl⟩
theorem ReadN.on {w w' : World} {v : Value} {L : List Nod} (h : ReadN w v L) (hb : Below w.heap.size w w') : ReadN w' v L := by
  obtain ⟨A, c, hv, hc, hm, hr⟩ := h
  refine ⟨A, c, hv, hc, hm, fun i t hi => ?_⟩
  obtain ⟨g, o, hA, hg, h0, h1, h2, h3⟩ := hr i t hi
  have e : ∀ j, w'.cell? ⟨g, j, none⟩ = w.cell? ⟨g, j, none⟩ := fun j => hb.cell (p := ⟨g, j, none⟩) hg
  exact ⟨g, o, hA, Nat.lt_of_lt_of_le hg hb.size, by rw [e]; exact h0, by rw [e]; exact h1, by rw [e]; exact h2, by rw [e]; exact h3⟩
theorem OwnN.on {w w' : World} {B : Nat} {v : Value} {L : List Nod} (h : OwnN w B v L) (hb : Below w.heap.size w w') : OwnN w' B v L := by
  obtain ⟨h1, h2⟩ := h
  refine ⟨h1, ?_⟩
  rcases h2 with h2 | ⟨g, cap, cur, hv, hg, hh, r⟩
  · exact .inl h2
  · exact .inr ⟨g, cap, cur, hv, hg, (hb.block g (Array.getElem?_eq_some_iff.1 hh).1).trans hh, r⟩
theorem OwnN.base {w : World} {B B' : Nat} {v : Value} {L : List Nod} (h : OwnN w B v L) (hB : B' ≤ B) : OwnN w B' v L := by
  obtain ⟨h1, h2⟩ := h
  refine ⟨h1, ?_⟩
  rcases h2 with h2 | ⟨g, cap, cur, hv, hg, r⟩
  · exact .inl h2
  · exact .inr ⟨g, cap, cur, hv, Nat.le_trans hB hg, r⟩
theorem ownN_nil (w : World) (B : Nat) : OwnN w B (.slice none 0 0) [] := World.ownsRow_nil _ _ _ _
/-- A part of a slice that is read. -/
theorem ReadN.part {w : World} {g o n c k to : Nat} {L : List Nod} (h : ReadN w (.slice (some ⟨g, o, none⟩) n c) L) (hk : k ≤ to) (ht : to ≤ n) : ReadN w (.slice (some ⟨g, o + k * 4, none⟩) (to - k) (c - k)) ((L.take to).drop k) := by
  obtain ⟨A, c', hv, hc, hm, hr⟩ := h
  simp only [Value.slice.injEq] at hv
  obtain ⟨rfl, rfl, rfl⟩ := hv
  refine ⟨_, _, by rw [List.length_drop, List.length_take, Nat.min_eq_left ht], by rw [List.length_drop, List.length_take, Nat.min_eq_left ht]; omega, by omega, fun i t hi => ?_⟩
  rw [List.getElem?_drop, List.getElem?_take] at hi
  split at hi
  · obtain ⟨g', o', hA, hg, h0, h1, h2, h3⟩ := hr (k + i) t hi
    simp only [Option.some.injEq, Addr.mk.injEq] at hA
    obtain ⟨rfl, rfl, _⟩ := hA
    have e : o + (k + i) * 4 = o + k * 4 + i * 4 := by omega
    rw [e] at h0 h1 h2 h3
    exact ⟨g, o + k * 4, rfl, hg, h0, h1, h2, h3⟩
  · cases hi
theorem ReadN.len {w : World} {A : Option Addr} {n c : Nat} {L : List Nod} (h : ReadN w (.slice A n c) L) : n = L.length ∧ n ≤ c ∧ c ≤ maxLen := by
  obtain ⟨A', c', hv, hc, hm, hr⟩ := h
  simp only [Value.slice.injEq] at hv
  obtain ⟨rfl, rfl, rfl⟩ := hv
  exact ⟨rfl, hc, hm⟩
theorem ReadN.addr {w : World} {v : Value} {L : List Nod} (h : ReadN w v L) (h0 : L ≠ []) : ∃ g o c, v = .slice (some ⟨g, o, none⟩) L.length c ∧ L.length ≤ c ∧ c ≤ maxLen ∧ g < w.heap.size := by
  obtain ⟨A, c, hv, hc, hm, hr⟩ := h
  cases L with
  | nil => exact absurd rfl h0
  | cons a L =>
    obtain ⟨g, o, rfl, hg, _⟩ := hr 0 a rfl
    exact ⟨g, o, c, hv, hc, hm, hg⟩

/-! ### takes -/
theorem ret_int {a b : Int} (h : a = b) : Ending.returned (.int .i64 a) = .returned (.int .i64 b) := by rw [h]
/-- What a call of one number comes back with; the world is as it was. -/
def TellsI (n : Int) (w : World) (e : Ending) (w' : World) : Prop := e = .returned (.int .i64 n) ∧ w = w'
theorem takesV_eq (op : Int) : takesV op = if op = 1 ∨ op = 2 then 0 else if op = 3 ∨ op = 4 then 1 else if 5 ≤ op ∧ op ≤ 15 then 2 else -1 := by
  unfold takesV takesN
  by_cases h1 : op = 1 ∨ op = 2
  · rw [if_pos h1, if_pos h1]; rfl
  · rw [if_neg h1, if_neg h1]
    by_cases h2 : op = 3 ∨ op = 4
    · rw [if_pos h2, if_pos h2]; rfl
    · rw [if_neg h2, if_neg h2]
      by_cases h3 : 5 ≤ op ∧ op ≤ 15
      · rw [if_pos h3, if_pos h3]; rfl
      · rw [if_neg h3, if_neg h3]
theorem takes_any (op : Int) (w : World) : Calls Tryz.prog 129 #[.int .i64 op] w (TellsI (takesV op) w) := by
  go_enter Tryz.func129, Tryz.ntmps129
  go_wp2
  all_goals
    go_ret
    refine ⟨ret_int ?_, rfl⟩
    rw [takesV_eq]
    simp_all <;> omega
theorem rkids_any (op : Int) (w : World) : Calls Tryz.prog 118 #[.int .i64 op] w (TellsI (takesV op) w) := by
  go_enter Tryz.func118, Tryz.ntmps118
  go_wp2
  all_goals
    go_ret
    refine ⟨ret_int ?_, rfl⟩
    rw [takesV_eq]
    simp_all <;> omega

/-! ### End -/
def endG (m : Nat) (L : List Nod) (k : Nat) : Int := match endC m (L.drop k) with
  | some j => ((k + j : Nat) : Int)
  | none => -1
theorem endG_start (L : List Nod) (k : Nat) : endG 0 L k = endV L k := (endV_nat L k).symm
theorem endG_out {m : Nat} {L : List Nod} {k : Nat} (h : L.length ≤ k) : endG m L k = -1 := by
  unfold endG; rw [List.drop_eq_nil_of_le h]; rfl
theorem endG_none {m : Nat} {L : List Nod} {k : Nat} {a : Nod} (h : L[k]? = some a) (ht : takesN a.op = none) : endG m L k = -1 := by
  unfold endG; rw [drop_cons h, endC_none _ ht]
theorem endG_last {L : List Nod} {k : Nat} {a : Nod} (h : L[k]? = some a) (ht : takesN a.op = some 0) : endG 0 L k = k + 1 := by
  unfold endG; rw [drop_cons h, endC_last _ ht]; simp
theorem endG_more {m t : Nat} {L : List Nod} {k : Nat} {a : Nod} (h : L[k]? = some a) (ht : takesN a.op = some t) (h2 : m + t ≠ 0) : endG m L k = endG (m + t - 1) L (k + 1) := by
  unfold endG; rw [drop_cons h, endC_more _ ht h2]
  cases endC (m + t - 1) (L.drop (k + 1)) with
  | none => rfl
  | some j => show ((k + (j + 1) : Nat) : Int) = ((k + 1 + j : Nat) : Int); omega

set_option maxRecDepth 100000 in
set_option maxHeartbeats 2000000 in
theorem end_any (v : Value) (L : List Nod) (i : Int) (w : World) (h : ReadN w v L) (hl : L.length ≤ 10000) : Calls Tryz.prog 113 #[v, .int .i64 i] w (TellsI (endV L i) w) := by
  obtain ⟨A, c, rfl, hc, hm, hr⟩ := h
  have HR := Lib.hid hr
  clear hr
  by_cases hi : i < 0
  · have HE := Lib.hid (endV_neg (L := L) hi)
    go_enter Tryz.func113, Tryz.ntmps113
    go_wp2_with fail
    go_ret
    exact ⟨ret_int HE.out.symm, rfl⟩
  · obtain ⟨n, rfl⟩ : ∃ n : Nat, i = n := ⟨i.toNat, by omega⟩
    clear hi
    go_enter Tryz.func113, Tryz.ntmps113
    go_wp2_with fail
    go_loop [1, 5] (fun i s => ∃ k m : Nat, n ≤ k ∧ (k = n ∨ k ≤ L.length) ∧ m ≤ k - n ∧ i = .int .i64 k ∧ s = .int .i64 (m + 1 : Nat) ∧ endG m L k = endV L n) (fun i _ => L.length - (intOf i).toNat)
    case atStart => exact ⟨n, 0, Nat.le_refl _, .inl rfl, Nat.zero_le _, rfl, rfl, endG_start L n⟩
    case round =>
      obtain ⟨k, m, hk, hk2, hm2, rfl, rfl, hE⟩ := hrel
      have HE := Lib.hid hE
      clear hE
      by_cases hlt : k < L.length
      · have ha : L[k]? = some L[k] := List.getElem?_eq_getElem hlt
        generalize L[k] = a at *
        obtain ⟨g, o, rfl, hg, x0, x1, x2, x3⟩ := HR.out k a ha
        cases ht : takesN a.op with
        | none =>
          have HQ := Lib.hid (endG_none (m := m) ha ht)
          have HT := Lib.hid (takesV_none ht)
          clear ha ht
          go_wp2_with fail
          refine (takes_any _ _).mono ?_
          rw [HT.out]
          rintro e w' ⟨rfl, rfl⟩
          go_wp2_with fail
          go_ret
          exact ⟨ret_int (by rw [← HE.out, HQ.out]), rfl⟩
        | some t =>
          have HT := Lib.hid (takesV_some ht)
          have ht2 := takes_le ht
          by_cases h0 : m + t = 0
          · obtain ⟨rfl, rfl⟩ : m = 0 ∧ t = 0 := by omega
            have HQ := Lib.hid (endG_last ha ht)
            clear ha ht h0
            go_wp2_with fail
            refine (takes_any _ _).mono ?_
            rw [HT.out]
            rintro e w' ⟨rfl, rfl⟩
            go_wp2_with fail
            go_ret
            exact ⟨ret_int (by rw [← HE.out, HQ.out]), rfl⟩
          · have HQ := Lib.hid (endG_more ha ht h0)
            have hne : ((m : Int) + 1 + ((t : Int) - 1) == 0) = false := beq_eq_false_iff_ne.2 (by omega)
            have HM : Hid ((m : Int) + 1 + ((t : Int) - 1) = ((m + t - 1 + 1 : Nat) : Int)) := Lib.hid (by omega)
            clear ha ht
            go_wp2_with fail
            refine (takes_any _ _).mono ?_
            rw [HT.out]
            rintro e w' ⟨rfl, rfl⟩
            go_wp2_with fail
            go_round
            case rel => exact ⟨k + 1, m + t - 1, by omega, by omega, by omega, by go_num, by rw [HM.out], by rw [← HQ.out]; exact HE.out⟩
            case measure => simp [intOf]; omega
      · have HQ := Lib.hid (endG_out (m := m) (L := L) (k := k) (by omega))
        go_wp2_with fail
        go_ret
        exact ⟨ret_int (by rw [← HE.out, HQ.out]), rfl⟩
end Go.Proofs.YtpeohfgadnfnpaaGreatDoor
