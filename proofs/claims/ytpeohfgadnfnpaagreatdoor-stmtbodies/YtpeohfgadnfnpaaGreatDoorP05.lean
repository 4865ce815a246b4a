/-
  DERIVED. Layer 3: the plain mathematics of the reader of expressions; nothing of the program in it.
-/
import Derived.Test.YtpeohfgadnfnpaaGreatDoorP02
import Derived.Test.YtpeohfgadnfnpaaGreatDoorP04
namespace Go.Proofs.YtpeohfgadnfnpaaGreatDoor

/-- The signs, and how much they bind, by operator. -/
def signsTab : List (List UInt8) := [[], [], [], [45], [33], [43], [45], [42], [47], [37], [61, 61], [33, 61], [60], [60, 61], [38, 38], [124, 124]]
def bindsTab : List Int := [0, 0, 0, 6, 6, 4, 4, 5, 5, 5, 3, 3, 3, 3, 2, 1]
def signT (op : Nat) : List UInt8 := signsTab.getD op []
def bindT (op : Nat) : Int := bindsTab.getD op 0
/-- The operator that stands at a place and binds so much; 0, if there is none. -/
def signAt (L : List Tok) (b : Nat) (i : Nat) : Nat := ((List.range 16).find? (fun op => bindT op == (b : Int) && isB L i (signT op))).getD 0
def plAt (L : List Tok) (i : Nat) : Int := match L[i]? with
  | some t => t.pl
  | none => 0
/-- What reading comes to: an expression and the place behind it, or an error at a token. -/
inductive Res where
  | ok (x : Ex) (to : Nat)
  | bad (e : Int) (j : Nat)
deriving DecidableEq
def wrongV (L : List Tok) (j : Nat) : Res := .bad (if L.length ≤ j then 6 else 5) j
def leafR (L : List Tok) (i : Nat) : Res := match L[i]? with
  | none => .bad 6 i
  | some t => if t.kind = 2 then .ok (.leaf ⟨1, t.n, [], t.pl⟩) (i + 1) else if t.kind = 1 ∧ nameB t.text = true then .ok (.leaf ⟨2, 0, t.text, t.pl⟩) (i + 1) else .bad 5 i
def signN (L : List Tok) (b i : Nat) : Nod := ⟨signAt L b i, 0, [], plAt L i⟩
mutual
def chainF (L : List Tok) : Nat → Nat → Nat → Nat → Option Res
  | 0, _, _, _ => none
  | f + 1, b, i, d => if b = 6 then singleF L f i d else match chainF L f (b + 1) i d with
    | some (.ok x to) => loopF L f b x to d
    | some (.bad e j) => some (.bad e j)
    | none => none
def loopF (L : List Tok) : Nat → Nat → Ex → Nat → Nat → Option Res
  | 0, _, _, _, _ => none
  | f + 1, b, x, i, d => if signAt L b i = 0 then some (.ok x i) else match chainF L f (b + 1) (i + 1) d with
    | some (.ok y to) => if b = 3 then some (.ok (.bin (signN L b i) x y) to) else loopF L f b (.bin (signN L b i) x y) to d
    | some (.bad e j) => some (.bad e j)
    | none => none
def singleF (L : List Tok) : Nat → Nat → Nat → Option Res
  | 0, _, _ => none
  | f + 1, i, d => if isB L i [40] = true then (if d = 12 then some (.bad 7 i) else match chainF L f 1 (i + 1) (d + 1) with
      | some (.ok x to) => if isB L to [41] = true then some (.ok x (to + 1)) else some (wrongV L to)
      | some (.bad e j) => some (.bad e j)
      | none => none)
    else if signAt L 6 i = 0 then some (leafR L i) else if d = 12 then some (.bad 7 i) else match singleF L f (i + 1) (d + 1) with
      | some (.ok x to) => some (.ok (.un (signN L 6 i) x) to)
      | some (.bad e j) => some (.bad e j)
      | none => none
end

/-! ### Signs. -/
theorem signAt_spec {L : List Tok} {b i : Nat} (h : signAt L b i ≠ 0) : signAt L b i < 16 ∧ bindT (signAt L b i) = b ∧ isB L i (signT (signAt L b i)) = true := by
  unfold signAt at *
  cases hf : (List.range 16).find? (fun op => bindT op == (b : Int) && isB L i (signT op)) with
  | none => rw [hf] at h; exact absurd rfl h
  | some op =>
    rw [hf] at h
    have h1 := List.find?_some hf
    have h2 := List.mem_of_find?_eq_some hf
    simp at h1 h2
    exact ⟨h2, h1.1, h1.2⟩
theorem signAt_none {L : List Tok} {b i : Nat} (hb : 1 ≤ b) (h : signAt L b i = 0) : ∀ op, op < 16 → bindT op = b → isB L i (signT op) = false := by
  intro op ho hbi
  unfold signAt at h
  cases hf : (List.range 16).find? (fun op => bindT op == (b : Int) && isB L i (signT op)) with
  | none =>
    rw [List.find?_eq_none] at hf
    have := hf op (by simpa using ho)
    simp [hbi] at this
    exact this
  | some op' =>
    rw [hf] at h
    simp at h; subst h
    have h1 := List.find?_some hf
    simp [bindT, bindsTab] at h1
    omega
theorem isB_lt {L : List Tok} {i : Nat} {s : List UInt8} (h : isB L i s = true) : i < L.length := by
  unfold isB at h
  by_cases hi : i < L.length
  · exact hi
  · rw [Int.toNat_natCast, List.getElem?_eq_none (by omega)] at h; simp at h
theorem signAt_lt {L : List Tok} {b i : Nat} (h : signAt L b i ≠ 0) : i < L.length := isB_lt (signAt_spec h).2.2
theorem bind_takes : ∀ op : Fin 16, (bindT op = 6 → takesN (op : Nat) = some 1) ∧ (∀ b : Fin 6, 1 ≤ b.1 → bindT op = (b.1 : Int) → takesN (op : Nat) = some 2) := by decide
theorem sign_one {L : List Tok} {i : Nat} (h : signAt L 6 i ≠ 0) : takesN (signAt L 6 i : Nat) = some 1 := by
  obtain ⟨h1, h2, _⟩ := signAt_spec h
  exact (bind_takes ⟨_, h1⟩).1 h2
theorem sign_two {L : List Tok} {b i : Nat} (hb : 1 ≤ b) (hb2 : b ≤ 5) (h : signAt L b i ≠ 0) : takesN (signAt L b i : Nat) = some 2 := by
  obtain ⟨h1, h2, _⟩ := signAt_spec h
  exact (bind_takes ⟨_, h1⟩).2 ⟨b, by omega⟩ hb h2

/-! ### What is read is whole; it goes on; its nodes are of tokens. -/
def NodOf (L : List Tok) (a : Nod) : Prop := ∃ t ∈ L, a.pl = t.pl ∧ ((t.kind = 2 ∧ a.op = 1 ∧ a.n = t.n ∧ a.name = []) ∨ (t.kind = 1 ∧ nameB t.text = true ∧ a.op = 2 ∧ a.n = 0 ∧ a.name = t.text) ∨ (3 ≤ a.op ∧ a.op ≤ 15 ∧ a.n = 0 ∧ a.name = []))
def Fine (L : List Tok) (i : Nat) (r : Res) : Prop := match r with
  | .ok x to => i < to ∧ to ≤ L.length ∧ x.ok ∧ x.size ≤ to - i ∧ ∀ a ∈ x.flat, NodOf L a
  | .bad e j => (e = 5 ∨ e = 6 ∨ e = 7) ∧ i ≤ j ∧ (j ≤ L.length ∨ j = i)
theorem nod_sign {L : List Tok} {b i : Nat} (h : signAt L b i ≠ 0) (ht : takesN (signAt L b i : Nat) ≠ some 0) : NodOf L (signN L b i) := by
  have hlt := signAt_lt h
  obtain ⟨h1, _, _⟩ := signAt_spec h
  have e : L[i]? = some L[i] := List.getElem?_eq_getElem hlt
  refine ⟨L[i], List.getElem_mem hlt, ?_, .inr (.inr ⟨?_, ?_, rfl, rfl⟩)⟩
  · show plAt L i = _
    unfold plAt; rw [e]
  · show (3 : Int) ≤ (signAt L b i : Nat)
    unfold takesN at ht
    split at ht
    · exact absurd rfl ht
    · omega
  · show ((signAt L b i : Nat) : Int) ≤ 15
    omega
theorem fine_leaf (L : List Tok) (i : Nat) : Fine L i (leafR L i) := by
  unfold leafR
  cases h : L[i]? with
  | none => exact ⟨.inr (.inl rfl), Nat.le_refl _, .inr rfl⟩
  | some t =>
    have hi := (List.getElem?_eq_some_iff.1 h).1
    have hm := List.mem_of_getElem? h
    simp only
    split
    · rename_i hk
      refine ⟨by omega, by omega, rfl, by simp [Ex.size], fun a ha => ?_⟩
      simp [Ex.flat] at ha; subst ha
      exact ⟨t, hm, rfl, .inl ⟨hk, rfl, rfl, rfl⟩⟩
    · split
      · rename_i hk
        refine ⟨by omega, by omega, rfl, by simp [Ex.size], fun a ha => ?_⟩
        simp [Ex.flat] at ha; subst ha
        exact ⟨t, hm, rfl, .inr (.inl ⟨hk.1, hk.2, rfl, rfl, rfl⟩)⟩
      · exact ⟨.inl rfl, Nat.le_refl _, .inr rfl⟩
theorem fine_wrong (L : List Tok) (i j : Nat) (h : i ≤ j) (h2 : j ≤ L.length) : Fine L i (wrongV L j) := by
  unfold wrongV
  show (_ ∨ _ ∨ _) ∧ _
  refine ⟨?_, h, .inl h2⟩
  split
  · exact .inr (.inl rfl)
  · exact .inl rfl
def FineL (L : List Tok) (i : Nat) (x : Ex) (j : Nat) : Prop := i < j ∧ j ≤ L.length ∧ x.ok ∧ x.size ≤ j - i ∧ ∀ a ∈ x.flat, NodOf L a
theorem fine_bin {L : List Tok} {b i j k : Nat} {x y : Ex} (hb : 1 ≤ b) (hb2 : b ≤ 5) (h : signAt L b j ≠ 0) (hx : FineL L i x j) (hy : Fine L (j + 1) (.ok y k)) : FineL L i (.bin (signN L b j) x y) k := by
  obtain ⟨h1, h2, h3, h4, h5⟩ := hx
  obtain ⟨g1, g2, g3, g4, g5⟩ := hy
  have ht := sign_two hb hb2 h
  refine ⟨by omega, g2, ⟨ht, h3, g3⟩, by simp [Ex.size]; omega, fun a ha => ?_⟩
  simp only [Ex.flat, List.mem_cons, List.mem_append] at ha
  rcases ha with rfl | ha | ha
  · exact nod_sign h (by rw [ht]; simp)
  · exact h5 a ha
  · exact g5 a ha
theorem fine_all (L : List Tok) : ∀ f : Nat, (∀ b i d r, 1 ≤ b → b ≤ 6 → chainF L f b i d = some r → Fine L i r) ∧ (∀ b x i j d r, 1 ≤ b → b ≤ 5 → FineL L i x j → loopF L f b x j d = some r → Fine L i r) ∧ (∀ i d r, singleF L f i d = some r → Fine L i r) := by
  intro f
  induction f with
  | zero => exact ⟨fun b i d r _ _ h => by simp [chainF] at h, fun b x i j d r _ _ _ h => by simp [loopF] at h, fun i d r h => by simp [singleF] at h⟩
  | succ f ih =>
    obtain ⟨ic, il, is⟩ := ih
    refine ⟨fun b i d r hb hb2 h => ?_, fun b x i j d r hb hb2 hx h => ?_, fun i d r h => ?_⟩
    · rw [chainF] at h
      split at h
      · exact is _ _ _ h
      · split at h
        · rename_i hc
          have := ic _ _ _ _ (by omega) (by omega) hc
          exact il _ _ _ _ _ _ hb (by omega) this h
        · rename_i hc
          simp at h; subst h
          exact ic _ _ _ _ (by omega) (by omega) hc
        · cases h
    · rw [loopF] at h
      split at h
      · simp at h; subst h; exact hx
      · rename_i hs
        split at h
        · rename_i hc
          have hy := ic _ _ _ _ (by omega) (by omega) hc
          have hxy := fine_bin hb hb2 hs hx hy
          split at h
          · simp at h; subst h; exact hxy
          · exact il _ _ _ _ _ _ hb hb2 hxy h
        · rename_i hc
          simp at h; subst h
          have hlt := signAt_lt hs
          obtain ⟨h1, h2, h3⟩ := ic _ _ _ _ (by omega) (by omega) hc
          have h4 := hx.1
          exact ⟨h1, by omega, by omega⟩
        · cases h
    · rw [singleF] at h
      split at h
      · rename_i ho
        have hlt := isB_lt ho
        split at h
        · simp at h; subst h; exact ⟨.inr (.inr rfl), Nat.le_refl _, .inr rfl⟩
        · split at h
          · rename_i hc
            obtain ⟨h1, h2, h3, h4, h5⟩ := ic _ _ _ _ (by omega) (by omega) hc
            split at h
            · rename_i hcl
              simp at h; subst h
              have := isB_lt hcl
              exact ⟨by omega, by omega, h3, by omega, h5⟩
            · simp at h; subst h; exact fine_wrong _ _ _ (by omega) h2
          · rename_i hc
            simp at h; subst h
            obtain ⟨h1, h2, h3⟩ := ic _ _ _ _ (by omega) (by omega) hc
            exact ⟨h1, by omega, by omega⟩
          · cases h
      · split at h
        · simp at h; subst h; exact fine_leaf _ _
        · rename_i hs
          split at h
          · simp at h; subst h; exact ⟨.inr (.inr rfl), Nat.le_refl _, .inr rfl⟩
          · split at h
            · rename_i hc
              simp at h; subst h
              obtain ⟨h1, h2, h3, h4, h5⟩ := is _ _ _ hc
              have ht := sign_one hs
              refine ⟨by omega, h2, ⟨ht, h3⟩, by simp [Ex.size]; omega, fun a ha => ?_⟩
              simp only [Ex.flat, List.mem_cons] at ha
              rcases ha with rfl | ha
              · exact nod_sign hs (by rw [ht]; simp)
              · exact h5 a ha
            · rename_i hc
              simp at h; subst h
              have hlt := signAt_lt hs
              obtain ⟨h1, h2, h3⟩ := is _ _ _ hc
              exact ⟨h1, by omega, by omega⟩
            · cases h

/-! ### There is always enough to go on with. -/
theorem total_all (L : List Tok) : ∀ f : Nat, (∀ b i d, 1 ≤ b → b ≤ 6 → 20 * (L.length - i) + 2 * (7 - b) ≤ f → ∃ r, chainF L f b i d = some r) ∧ (∀ b x j d, 1 ≤ b → b ≤ 5 → 20 * (L.length - j) + 1 ≤ f → ∃ r, loopF L f b x j d = some r) ∧ (∀ i d, 20 * (L.length - i) + 1 ≤ f → ∃ r, singleF L f i d = some r) := by
  intro f
  induction f with
  | zero => exact ⟨fun b i d _ _ h => by omega, fun b x j d _ _ h => by omega, fun i d h => by omega⟩
  | succ f ih =>
    obtain ⟨ic, il, is⟩ := ih
    refine ⟨fun b i d hb hb2 h => ?_, fun b x j d hb hb2 h => ?_, fun i d h => ?_⟩
    · rw [chainF]
      split
      · exact is _ _ (by omega)
      · obtain ⟨r, hr⟩ := ic (b + 1) i d (by omega) (by omega) (by omega)
        rw [hr]
        cases r with
        | ok x to =>
          obtain ⟨h1, h2, _⟩ := (fine_all L f).1 _ _ _ _ (by omega) (by omega) hr
          exact il _ _ _ _ hb (by omega) (by omega)
        | bad e j => exact ⟨_, rfl⟩
    · rw [loopF]
      split
      · exact ⟨_, rfl⟩
      · rename_i hs
        have hlt := signAt_lt hs
        obtain ⟨r, hr⟩ := ic (b + 1) (j + 1) d (by omega) (by omega) (by omega)
        rw [hr]
        cases r with
        | ok x to =>
          obtain ⟨h1, h2, _⟩ := (fine_all L f).1 _ _ _ _ (by omega) (by omega) hr
          simp only
          split
          · exact ⟨_, rfl⟩
          · exact il _ _ _ _ hb (by omega) (by omega)
        | bad e j => exact ⟨_, rfl⟩
    · rw [singleF]
      split
      · rename_i ho
        have hlt := isB_lt ho
        split
        · exact ⟨_, rfl⟩
        · obtain ⟨r, hr⟩ := ic 1 (i + 1) (d + 1) (by omega) (by omega) (by omega)
          rw [hr]
          cases r with
          | ok x to => simp only; split <;> exact ⟨_, rfl⟩
          | bad e j => exact ⟨_, rfl⟩
      · split
        · exact ⟨_, rfl⟩
        · rename_i hs
          have hlt := signAt_lt hs
          split
          · exact ⟨_, rfl⟩
          · obtain ⟨r, hr⟩ := is (i + 1) (d + 1) (by omega)
            rw [hr]
            cases r with
            | ok x to => exact ⟨_, rfl⟩
            | bad e j => exact ⟨_, rfl⟩

/-! ### More to go on with changes nothing. -/
theorem mono_one (L : List Tok) : ∀ f : Nat, (∀ b i d r, chainF L f b i d = some r → chainF L (f + 1) b i d = some r) ∧ (∀ b x j d r, loopF L f b x j d = some r → loopF L (f + 1) b x j d = some r) ∧ (∀ i d r, singleF L f i d = some r → singleF L (f + 1) i d = some r) := by
  intro f
  induction f with
  | zero => exact ⟨fun b i d r h => by simp [chainF] at h, fun b x j d r h => by simp [loopF] at h, fun i d r h => by simp [singleF] at h⟩
  | succ f ih =>
    obtain ⟨ic, il, is⟩ := ih
    refine ⟨fun b i d r h => ?_, fun b x j d r h => ?_, fun i d r h => ?_⟩
    · rw [chainF] at h ⊢
      split at h
      · rename_i hb; rw [if_pos hb]; exact is _ _ _ h
      · rename_i hb; rw [if_neg hb]
        split at h
        · rename_i hc; rw [ic _ _ _ _ hc]; exact il _ _ _ _ _ h
        · rename_i hc; rw [ic _ _ _ _ hc]; exact h
        · cases h
    · rw [loopF] at h ⊢
      split at h
      · rename_i hb; rw [if_pos hb]; exact h
      · rename_i hb; rw [if_neg hb]
        split at h
        · rename_i hc; rw [ic _ _ _ _ hc]
          simp only
          split at h
          · rename_i hq; rw [if_pos hq]; exact h
          · rename_i hq; rw [if_neg hq]; exact il _ _ _ _ _ h
        · rename_i hc; rw [ic _ _ _ _ hc]; exact h
        · cases h
    · rw [singleF] at h ⊢
      split at h
      · rename_i ho; rw [if_pos ho]
        split at h
        · rename_i hd; rw [if_pos hd]; exact h
        · rename_i hd; rw [if_neg hd]
          split at h
          · rename_i hc; rw [ic _ _ _ _ hc]; exact h
          · rename_i hc; rw [ic _ _ _ _ hc]; exact h
          · cases h
      · rename_i ho; rw [if_neg ho]
        split at h
        · rename_i hs; rw [if_pos hs]; exact h
        · rename_i hs; rw [if_neg hs]
          split at h
          · rename_i hd; rw [if_pos hd]; exact h
          · rename_i hd; rw [if_neg hd]
            split at h
            · rename_i hc; rw [is _ _ _ hc]; exact h
            · rename_i hc; rw [is _ _ _ hc]; exact h
            · cases h
theorem chain_mono {L : List Tok} {f g b i d : Nat} {r : Res} (hfg : f ≤ g) (h : chainF L f b i d = some r) : chainF L g b i d = some r := by
  induction g with
  | zero =>
    obtain rfl : f = 0 := (by omega)
    exact h
  | succ g ih =>
    by_cases e : f = g + 1
    · subst e; exact h
    · exact (mono_one L g).1 _ _ _ _ (ih (by omega))
theorem single_mono {L : List Tok} {f g i d : Nat} {r : Res} (hfg : f ≤ g) (h : singleF L f i d = some r) : singleF L g i d = some r := by
  induction g with
  | zero =>
    obtain rfl : f = 0 := (by omega)
    exact h
  | succ g ih =>
    by_cases e : f = g + 1
    · subst e; exact h
    · exact (mono_one L g).2.2 _ _ _ (ih (by omega))
theorem chain_same {L : List Tok} {f g b i d : Nat} {r q : Res} (h : chainF L f b i d = some r) (h2 : chainF L g b i d = some q) : r = q := by
  have h3 := chain_mono (Nat.le_max_left f g) h
  have h4 := chain_mono (Nat.le_max_right f g) h2
  rw [h3] at h4; exact Option.some.inj h4

/-! ### The whole. -/
def parseR (L : List Tok) (i : Nat) : Res := (chainF L (20 * (L.length - i) + 12) 1 i 0).getD (.bad 0 0)
theorem parseR_chain (L : List Tok) (i : Nat) : chainF L (20 * (L.length - i) + 12) 1 i 0 = some (parseR L i) := by
  obtain ⟨r, hr⟩ := (total_all L (20 * (L.length - i) + 12)).1 1 i 0 (by omega) (by omega) (by omega)
  unfold parseR; rw [hr]; rfl
theorem parseR_of {L : List Tok} {f i : Nat} {r : Res} (h : chainF L f 1 i 0 = some r) : parseR L i = r := chain_same (parseR_chain L i) h
theorem parseR_fine (L : List Tok) (i : Nat) : Fine L i (parseR L i) := (fine_all L _).1 _ _ _ _ (by omega) (by omega) (parseR_chain L i)
structure Parsed where
  nodes : List Nod
  to : Int
  err : Int
  pl : Int
deriving DecidableEq
def exprV (L : List Tok) (i : Int) : Parsed := if i < 0 then ⟨[], 0, 1, 0⟩ else match parseR L i.toNat with
  | .bad e j => ⟨[], 0, e, placeV L j⟩
  | .ok x to => if 12 < x.deep then ⟨[], 0, 7, placeV L i⟩ else if 40 < x.size then ⟨[], 0, 2, placeV L i⟩ else ⟨x.flat, to, 0, 0⟩
end Go.Proofs.YtpeohfgadnfnpaaGreatDoor
