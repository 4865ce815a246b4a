/-
  DERIVED. Layer 4: contracts of the reader's name, expression and rounds (package stmt).
-/
import Derived.Test.YtpeohfgadnfnpaaGreatDoorQ20
import Derived.Test.YtpeohfgadnfnpaaGreatDoorQ22
namespace Go.Proofs.YtpeohfgadnfnpaaGreatDoor
open Go.RowKit

/-- The reader has told a place; nothing else of it is sure. -/
def BadAt (g : Nat) (lv : Value) (pl : Int) (w : World) : Prop := ∃ (i : Value) (d l : Int) (m kv : Value), w.heap[g]? = some (.cells #[lv, i, .int .i64 d, .int .i64 l, m, kv, .int .i64 pl] 55 (0, 0))
/-- A block of another statement's, or of this one's, beside the reader. -/
structure Aside4 (W0 : World) (g : Nat) (kv : Value) (b : Nat) : Prop where
  ne : b ≠ g
  own : kv.ownBlock ≠ some b
  low : W0.heap.size ≤ b
/-- What a reading part comes back with. -/
def Reads {α : Type} (r : RS α) (ok : α → Nat → World → Prop) (g : Nat) (lv : Value) (P : Nat → Prop) (w : World) (e : Ending) (w' : World) : Prop :=
  match r with
  | .ok a j => e = .returned (.int .i64 0) ∧ ok a j w' ∧ KeepP P w w'
  | .bad er p => e = .returned (.int .i64 er) ∧ BadAt g lv p w' ∧ KeepP P w w'
section
variable {L : List Tok} {W0 : World} {g : Nat} {lv : Value} {i d l m : Nat} {pl : Int} {K : List Sv} {kv : Value} {w : World}
theorem St4.bad (h : St4 L W0 g lv i d l m pl K kv w) : BadAt g lv pl w := ⟨_, _, _, _, _, h.blk⟩
theorem Fails.reads {α : Type} {r : RS α} {ok : α → Nat → World → Prop} {P : Nat → Prop} {er pl : Int} {w1 : World} {e : Ending} {w2 : World} (h : Fails L W0 g lv i d l m K kv er pl w1 e w2) (hr : r = .bad er pl) (hk : KeepP P w w1) (hP : P g) : Reads r ok g lv P w e w2 := by
  subst hr
  obtain ⟨h1, h2, h3⟩ := h
  exact ⟨h1, h2.bad, hk.trans h3 (fun _ _ h => h) (fun k _ h => by rw [h]; exact hP)⟩
theorem St4.aside (h : St4 L W0 g lv i d l m pl K kv w) {b : Nat} {cs : Array Value} (hb : w.heap[b]? = some (.cells cs 31 (0, 0))) (ha : Aside4 W0 g kv b) {w' : World} (hk : KeepP (fun k => k = b) w w') : St4 L W0 g lv i d l m pl K kv w' := by
  have hg := h.gB
  obtain ⟨a1, a2, a3⟩ := ha
  refine ⟨h.low.trans (hk.below (fun k hk e => by omega) h.low.size), hg, by rw [hk.block g h.lt (fun e => a1 e.symm)]; exact h.blk, row_keep h.row hk (fun q hq e => a2 (by rw [hq, e])), fun x hx => ?_, h.len, h.il, h.mi, h.dd, h.ll⟩
  obtain ⟨h1, h2⟩ := h.rds x hx
  have hn : ∀ q cs fr, w.heap[q]? = some (.cells cs 33 fr) → ¬ (q = b) := fun q cs fr hh e => by rw [e, hb] at hh; simp at hh
  exact ⟨h1.keep hk hn, h2.keep hk hn⟩
theorem nameP_no (h : namedB L i = false) : nameP L i = .bad (if i < L.length then 5 else 6) (placeV L i) := by
  unfold namedB at h
  unfold nameP badR
  cases hn : nameAt L i with
  | none => rfl
  | some s => rw [hn] at h; simp at h
theorem nameP_yes (h : namedB L i = true) : ∃ t, L[i]? = some t ∧ i < L.length ∧ nameP L i = .ok t.text (i + 1) := by
  unfold namedB at h
  cases hn : nameAt L i with
  | none => rw [hn] at h; simp at h
  | some s =>
    have hl := (nameAt_lt hn).1
    refine ⟨L[i], List.getElem?_eq_getElem hl, hl, ?_⟩
    unfold nameP
    rw [hn]
    unfold nameAt at hn
    rw [List.getElem?_eq_getElem hl] at hn
    simp only at hn
    split at hn
    · simp at hn; rw [hn]
    · cases hn
theorem wrote_one (h : St4 L W0 g lv i d l m pl K kv w) {b j : Nat} {cs : Array Value} (hb : w.heap[b]? = some (.cells cs 31 (0, 0))) (ha : Aside4 W0 g kv b) {x : Value} {i' : Nat} (hi : i' ≤ L.length) (hm : m ≤ i') :
    St4 L W0 g lv i' d l m pl K kv ((w.setCell ⟨b, j, none⟩ x).setCell ⟨g, 1, none⟩ (.int .i64 i')) ∧ ((w.setCell ⟨b, j, none⟩ x).setCell ⟨g, 1, none⟩ (.int .i64 i')).heap[b]? = some (.cells (cs.setIfInBounds j x) 31 (0, 0)) :=
  ⟨(h.aside hb ha KeepP.set).set1 hi hm, by rw [Below.heap_setCell _ _ _ _ ha.ne]; exact set_blk hb⟩
theorem kept_wrote {w1 : World} {b j : Nat} {x y : Value} (h : Below w.heap.size w w1) : KeepP (fun k => k = g ∨ k = b) w ((w1.setCell ⟨b, j, none⟩ x).setCell ⟨g, 1, none⟩ y).drew :=
  (KeepP.of (P := fun k => k = g ∨ k = b) h).trans (((KeepP.set (g := b)).trans (KeepP.set (g := g)) (R := fun k => k = g ∨ k = b) (fun _ _ h => .inr h) (fun _ _ h => .inl h)).trans (KeepP.of (P := fun _ => False) (below_dr _)) (R := fun k => k = g ∨ k = b) (fun _ _ h => h) (fun _ _ h => h.elim)) (fun _ _ h => h) (fun _ _ h => h)
set_option maxRecDepth 100000 in
set_option maxHeartbeats 4000000 in
theorem name4 (hs : Src L W0 lv) (h : St4 L W0 g lv i d l m pl K kv w) {b j : Nat} {cs : Array Value} (hb : w.heap[b]? = some (.cells cs 31 (0, 0))) (ha : Aside4 W0 g kv b) {old : Value} (hj : cs[j]? = some old) :
    Calls Tryz.prog 105 #[.pointer (some ⟨g, 0, none⟩), .pointer (some ⟨b, j, none⟩)] w (Reads (nameP L i) (fun s i' w' => St4 L W0 g lv i' d l m pl K kv w' ∧ w'.heap[b]? = some (.cells (cs.setIfInBounds j (.string ⟨s.toArray⟩)) 31 (0, 0))) g lv (fun k => k = g ∨ k = b) w) := by
  have HS := Lib.hid h
  have HC := Lib.hid hs
  have HA := Lib.hid ha
  have HB := Lib.hid hb
  cases hn : namedB L i with
  | false =>
    have HN := Lib.hid hn
    obtain ⟨er, her⟩ : ∃ er : Int, (if i < L.length then 5 else 6) = er := ⟨_, rfl⟩
    have HP : Hid (nameP L i = .bad er (placeV L i)) := Lib.hid (by rw [nameP_no hn, her])
    have HER := Lib.hid her
    clear h hs ha hb hj hn her
    go_enter Tryz.func105, Tryz.ntmps105
    go_wp2_with fail
    refine (named4 HC.out HS.out).mono ?_
    rw [HN.out]
    rintro e w1 ⟨rfl, hb1⟩
    have HS1 := Lib.hid (HS.out.on hb1)
    have HK1 := Lib.hid (KeepP.of (P := fun k => k = g ∨ k = b) hb1)
    clear hb1
    go_wp2_with fail
    refine (wrong4 HC.out HS1.out).mono ?_
    rw [HER.out]
    intro e w2 hf
    have HF := Lib.hid (hf.reads (ok := (fun s i' w' => St4 L W0 g lv i' d l m pl K kv w' ∧ w'.heap[b]? = some (.cells (cs.setIfInBounds j (.string ⟨s.toArray⟩)) 31 (0, 0)))) HP.out HK1.out (.inl rfl))
    obtain ⟨rfl, _, _⟩ := hf
    go_wp2_with fail
    go_ret
    exact HF.out
  | true =>
    obtain ⟨t, ht, hi, hp⟩ := nameP_yes hn
    have HN := Lib.hid hn
    have HP := Lib.hid hp
    have HT := Lib.hid ht
    have hl := hs.len
    clear h hs ha hb hn hp ht
    go_enter Tryz.func105, Tryz.ntmps105
    go_wp2_with fail
    refine (named4 HC.out HS.out).mono ?_
    rw [HN.out]
    rintro e w1 ⟨rfl, hb1⟩
    have HS1 := Lib.hid (HS.out.on hb1)
    have hlb : b < w.heap.size := (Array.getElem?_eq_some_iff.1 HB.out).1
    have hbk1 : w1.heap[b]? = some (.cells cs 31 (0, 0)) := by rw [hb1.block b hlb]; exact HB.out
    have HB1 := Lib.hid hbk1
    have HBE := Lib.hid hb1
    clear hb1
    obtain ⟨tb, tc, rfl, hc, htb, _, t0, t1, t2, t3⟩ := HS1.out.tok HC.out HT.out
    have hgl := HS1.out.lt
    have c0 := HS1.out.c0
    have c1 := HS1.out.c1
    have f1 := HS1.out.fz 1
    have cb : w1.cell? ⟨b, j, none⟩ = some old := by rw [Lib.cell_of_heap hbk1]; exact hj
    have fb : w1.frozen? ⟨b, j, none⟩ = false := Lib.frozen_of_heap hbk1 j
    have hne : ¬ b = g := HA.out.ne
    have hne2 : ¬ g = b := fun e => HA.out.ne e.symm
    have hw1 : IntKind.i64.wrap ((i : Int) + 1) = (i : Int) + 1 := IntWalk.i64_in _ (by omega)
    have hi0 : (0 : Int) ≤ (i : Int) := by omega
    have hi1 : (i : Int) < (L.length : Int) := by omega
    clear hbk1 t0 t2 t3
    go_wp2_with fail
    go_region
    go_wp2_with fail
    go_ret
    rw [HP.out]
    obtain ⟨q1, q2⟩ := wrote_one (j := j) (x := .string ⟨t.text.toArray⟩) (i' := i + 1) HS1.out HB1.out HA.out (by omega) (by have := HS1.out.mi; omega)
    exact ⟨rfl, ⟨q1.on (below_dr _), q2⟩, kept_wrote HBE.out⟩
theorem beside_nodes (h : St4 L W0 g lv i d l m pl K kv w) {b : Nat} {cs : Array Value} (hb : w.heap[b]? = some (.cells cs 31 (0, 0))) : ∀ q cs fr, w.heap[q]? = some (.cells cs 33 fr) → ¬ (q = g ∨ q = b) := by
  rintro q cs' fr hh (e | e)
  · exact h.mine_nodes q cs' fr hh (.inl e)
  · rw [e, hb] at hh; simp at hh
theorem exprP_bad (h : ¬ (exprV L i).err = 0) : exprP L i = .bad (exprV L i).err (exprV L i).pl := by unfold exprP; rw [if_neg h]
set_option maxRecDepth 100000 in
set_option maxHeartbeats 4000000 in
theorem expr4 (hs : Src L W0 lv) (h : St4 L W0 g lv i d l m pl K kv w) {b j : Nat} {cs : Array Value} (hb : w.heap[b]? = some (.cells cs 31 (0, 0))) (ha : Aside4 W0 g kv b) {old : Value} (hj : cs[j]? = some old) :
    Calls Tryz.prog 106 #[.pointer (some ⟨g, 0, none⟩), .pointer (some ⟨b, j, none⟩)] w (Reads (exprP L i) (fun s i' w' => ∃ v, St4 L W0 g lv i' d l m pl K kv w' ∧ w'.heap[b]? = some (.cells (cs.setIfInBounds j v) 31 (0, 0)) ∧ ReadE W0.heap.size w' v s) g lv (fun k => k = g ∨ k = b) w) := by
  have HS := Lib.hid h
  have HC := Lib.hid hs
  have HA := Lib.hid ha
  have HB := Lib.hid hb
  have hgl := h.lt
  have c0 := h.c0
  have c1 := h.c1
  have hlen := hs.len
  clear h hs ha hb
  by_cases he : (exprV L i).err = 0
  · rcases expr_cases L i with ⟨hx, _⟩ | ⟨x, _, _, _, _, q, hx, hx1, hx2⟩
    · exact absurd he hx
    have HP : Hid (exprP L i = .ok x.flat q) := Lib.hid (by unfold exprP; rw [if_pos he, hx]; simp)
    have HX := Lib.hid hx
    clear hx he
    go_enter Tryz.func106, Tryz.ntmps106
    go_wp2_with fail
    go_region_held3 (fun w' => w'.cell? ⟨g, 0, none⟩ = some lv ∧ w'.cell? ⟨g, 1, none⟩ = some (.int .i64 i) ∧ Below w.heap.size w w')
      (first | exact ⟨c0, c1, Below.refl _ _⟩ | exact ⟨c0, c1, below_dr _⟩ | exact kept2 (w1 := w.drew) hgl ⟨c0, c1, below_dr _⟩ hb1)
      (first | (go_at_call 126; refine (parse_any lv L i _ ((HS.out.on (below_dr _)).toks HC.out) ((HS.out.on (below_dr _)).tabs HC.out) HC.out.len HC.out.small).mono ?_; rw [HX.out]; rintro e w1 ⟨v, rfl, ho, hb1⟩))
    obtain ⟨A5, n5, c5, rfl⟩ := own_slice ho
    have HO := Lib.hid ho
    have HBE := Lib.hid (below_then (below_dr w) hb1)
    have HS1 := Lib.hid (HS.out.on HBE.out)
    have hlb : b < w.heap.size := (Array.getElem?_eq_some_iff.1 HB.out).1
    have hbk1 : w1.heap[b]? = some (.cells cs 31 (0, 0)) := by rw [HBE.out.block b hlb]; exact HB.out
    have HB1 := Lib.hid hbk1
    have cb : w1.cell? ⟨b, j, none⟩ = some old := by rw [Lib.cell_of_heap hbk1]; exact hj
    have fb : w1.frozen? ⟨b, j, none⟩ = false := Lib.frozen_of_heap hbk1 j
    have hgl1 := HS1.out.lt
    have d1 := HS1.out.c1
    have f1 := HS1.out.fz 1
    have hne : ¬ b = g := HA.out.ne
    have hne2 : ¬ g = b := fun e => HA.out.ne e.symm
    clear ho hb1 hbk1 c0 c1
    go_wp2_with fail
    go_ret
    rw [HP.out]
    obtain ⟨q1, q2⟩ := wrote_one (j := j) (x := .slice A5 n5 c5) (i' := q) HS1.out HB1.out HA.out (by omega) (by have := HS1.out.mi; omega)
    have hE : ReadE W0.heap.size w1 (.slice A5 n5 c5) x.flat := HO.out.readE HS.out.low.size
    have hK := (KeepP.set (g := b) (j := j) (w := w1) (v := .slice A5 n5 c5)).trans (KeepP.set (g := g) (j := 1) (v := .int .i64 q)) (R := fun k => k = g ∨ k = b) (fun _ _ h => .inr h) (fun _ _ h => .inl h)
    exact ⟨rfl, ⟨_, q1, q2, hE.keep hK (beside_nodes HS1.out HB1.out)⟩, (KeepP.of (P := fun k => k = g ∨ k = b) HBE.out).trans hK (fun _ _ h => h) (fun _ _ h => h)⟩
  · have HP := Lib.hid (exprP_bad he)
    go_enter Tryz.func106, Tryz.ntmps106
    go_wp2_with fail
    go_region_held3 (fun w' => w'.cell? ⟨g, 0, none⟩ = some lv ∧ w'.cell? ⟨g, 1, none⟩ = some (.int .i64 i) ∧ Below w.heap.size w w')
      (first | exact ⟨c0, c1, Below.refl _ _⟩ | exact ⟨c0, c1, below_dr _⟩ | exact kept2 (w1 := w.drew) hgl ⟨c0, c1, below_dr _⟩ hb1)
      (first | (go_at_call 126; refine (parse_any lv L i _ ((HS.out.on (below_dr _)).toks HC.out) ((HS.out.on (below_dr _)).tabs HC.out) HC.out.len HC.out.small).mono ?_; rintro e w1 ⟨v, rfl, ho, hb1⟩))
    have HBE := Lib.hid (below_then (below_dr w) hb1)
    have HS1 := Lib.hid (HS.out.on HBE.out)
    have hgl1 := HS1.out.lt
    have d6 := HS1.out.c6
    have f6 := HS1.out.fz 6
    generalize (exprV L i).err = er at *
    generalize (exprV L i).pl = p6 at *
    generalize (exprV L i).to = t6 at *
    have hne : (er == 0) = false := by simp [he]
    clear ho hb1 c0 c1 he
    go_wp2_with fail
    go_ret
    rw [HP.out]
    exact ⟨rfl, (HS1.out.set6 p6).bad, (KeepP.of (P := fun k => k = g ∨ k = b) HBE.out).trans KeepP.set (fun _ _ h => h) (fun _ _ h => .inl h)⟩
theorem times_end (h : ¬ i < L.length) : timesP L i = .bad 6 (placeV L i) := by
  unfold timesP badR; rw [List.getElem?_eq_none (by omega)]; simp only [if_neg h]
theorem times_kind {t : Tok} (ht : L[i]? = some t) (h : i < L.length) (hk : ¬ t.kind = 2) : timesP L i = .bad 5 (placeV L i) := by
  unfold timesP badR; rw [ht]; simp only [if_neg hk, if_pos h]
theorem times_far {t : Tok} (ht : L[i]? = some t) (h : i < L.length) (hk : t.kind = 2) (hn : ¬ (1 ≤ t.n ∧ t.n ≤ 8)) : timesP L i = .bad 11 (placeV L i) := by
  unfold timesP badR; rw [ht]; simp only [if_pos hk, if_neg hn, if_pos h]
theorem times_yes {t : Tok} (ht : L[i]? = some t) (hk : t.kind = 2) (hn : 1 ≤ t.n ∧ t.n ≤ 8) : timesP L i = .ok t.n (i + 1) := by
  unfold timesP; rw [ht]; simp only [if_pos hk, if_pos hn]
theorem toks_stay2 {w1 w2 : World} {a : Value} {x : Value} {b : Nat} (hg : g < w.heap.size) (hb0 : b < w.heap.size) (k : w1.cell? ⟨g, 0, none⟩ = some a ∧ w1.cell? ⟨g, 1, none⟩ = some (.int .i64 i) ∧ w1.cell? ⟨b, i * 4 + 2, none⟩ = some x ∧ Below w.heap.size w w1) (hb : Below w1.heap.size w1 w2) : w2.cell? ⟨g, 0, none⟩ = some a ∧ w2.cell? ⟨g, 1, none⟩ = some (.int .i64 i) ∧ w2.cell? ⟨b, i * 4 + 2, none⟩ = some x ∧ Below w.heap.size w w2 := by
  obtain ⟨k0, k1, k2, kb⟩ := k
  have q : ∀ e j, e < w.heap.size → w2.cell? ⟨e, j, none⟩ = w1.cell? ⟨e, j, none⟩ := fun e j he => hb.cell (p := ⟨e, j, none⟩) (Nat.lt_of_lt_of_le he kb.size)
  exact ⟨by rw [q g _ hg, k0], by rw [q g _ hg, k1], by rw [q b _ hb0, k2], below_then kb hb⟩
set_option maxRecDepth 100000 in
set_option maxHeartbeats 4000000 in
theorem rounds4 (hs : Src L W0 lv) (h : St4 L W0 g lv i d l m pl K kv w) {b j : Nat} {cs : Array Value} (hb : w.heap[b]? = some (.cells cs 31 (0, 0))) (ha : Aside4 W0 g kv b) {old : Value} (hj : cs[j]? = some old) :
    Calls Tryz.prog 107 #[.pointer (some ⟨g, 0, none⟩), .pointer (some ⟨b, j, none⟩)] w (Reads (timesP L i) (fun n i' w' => St4 L W0 g lv i' d l m pl K kv w' ∧ w'.heap[b]? = some (.cells (cs.setIfInBounds j (.int .i64 n)) 31 (0, 0))) g lv (fun k => k = g ∨ k = b) w) := by
  have HS := Lib.hid h
  have HC := Lib.hid hs
  have HA := Lib.hid ha
  have HB := Lib.hid hb
  have hgl := h.lt
  have c0 := h.c0
  have c1 := h.c1
  have hlen := hs.len
  by_cases hi : i < L.length
  case neg =>
    have HD : Hid (decide (L.length ≤ i) = true) := Lib.hid (by simp; omega)
    have HER : Hid ((if i < L.length then (5 : Int) else 6) = 6) := Lib.hid (if_neg hi)
    have HP := Lib.hid (times_end hi)
    clear h hs ha hb
    go_enter Tryz.func107, Tryz.ntmps107
    go_wp2_with fail
    go_quiet (first | (go_at_call 71; refine Calls.quiet_of (ended4q HC.out (HS.out.on (below_drew1 _ _)) HD.out)))
    have HS1 := Lib.hid (HS.out.on (below_drew1 _ nq))
    have HK1 := Lib.hid (KeepP.of (P := fun k => k = g ∨ k = b) (below_drew1 w nq))
    go_wp2_with fail
    refine (wrong4 HC.out HS1.out).mono ?_
    rw [HER.out]
    intro e w2 hf
    have HF := Lib.hid (hf.reads (ok := (fun n i' w' => St4 L W0 g lv i' d l m pl K kv w' ∧ w'.heap[b]? = some (.cells (cs.setIfInBounds j (.int .i64 n)) 31 (0, 0)))) HP.out HK1.out (.inl rfl))
    obtain ⟨rfl, _, _⟩ := hf
    go_wp2_with fail
    go_ret
    exact HF.out
  case pos =>
  obtain ⟨t, ht⟩ : ∃ t, L[i]? = some t := ⟨L[i], List.getElem?_eq_getElem hi⟩
  obtain ⟨tb, tc, rfl, hc, hb0, _, t0, _, t2, _⟩ := h.tok hs ht
  have HD : Hid (decide (L.length ≤ i) = false) := Lib.hid (by simp; omega)
  have hi0 : (0 : Int) ≤ (i : Int) := by omega
  have hi1 : (i : Int) < (L.length : Int) := by omega
  have HT := Lib.hid ht
  by_cases hk : t.kind = 2
  case neg =>
    have HER : Hid ((if i < L.length then (5 : Int) else 6) = 5) := Lib.hid (if_pos hi)
    have HP := Lib.hid (times_kind ht hi hk)
    have hk1 : (t.kind == 2) = false := by simp [hk]
    clear h hs ha hb ht hk
    go_enter Tryz.func107, Tryz.ntmps107
    go_wp2_with fail
    go_quiet (first | (go_at_call 71; refine Calls.quiet_of (ended4q HC.out (HS.out.on (below_drew1 _ _)) HD.out)))
    have HS1 := Lib.hid (HS.out.on (below_drew1 _ nq))
    have HK1 := Lib.hid (KeepP.of (P := fun k => k = g ∨ k = b) (below_drew1 w nq))
    go_wp2_with fail
    refine (wrong4 HC.out HS1.out).mono ?_
    rw [HER.out]
    intro e w2 hf
    have HF := Lib.hid (hf.reads (ok := (fun n i' w' => St4 L W0 g (.slice (some ⟨tb, 0, none⟩) L.length tc) i' d l m pl K kv w' ∧ w'.heap[b]? = some (.cells (cs.setIfInBounds j (.int .i64 n)) 31 (0, 0)))) HP.out HK1.out (.inl rfl))
    obtain ⟨rfl, _, _⟩ := hf
    go_wp2_with fail
    go_ret
    exact HF.out
  case pos =>
  have HLO : Hid ((decide (1 ≤ t.n) && decide (t.n ≤ 8)) = decide (1 ≤ t.n ∧ t.n ≤ 8)) := Lib.hid (by rw [Bool.decide_and])
  go_enter Tryz.func107, Tryz.ntmps107
  go_wp2_with fail
  go_quiet (first | (go_at_call 71; refine Calls.quiet_of (ended4q HC.out (HS.out.on (below_drew1 _ _)) HD.out)))
  have HB1 := Lib.hid (below_drew1 w nq)
  go_wp2_with fail
  generalize hW : w.drewN nq = W at *
  have HS1 := Lib.hid (HS.out.on HB1.out)
  have hlb : b < w.heap.size := (Array.getElem?_eq_some_iff.1 HB.out).1
  have HBW : Hid (W.heap[b]? = some (.cells cs 31 (0, 0))) := Lib.hid (by rw [HB1.out.block b hlb]; exact HB.out)
  clear hW t0 t2 c0 c1 hgl hb0 h ha hb
  have hgl := HS1.out.lt
  have c0 := HS1.out.c0
  have c1 := HS1.out.c1
  obtain ⟨tb', tc', hlv, _, hb0, _, _, _, t2, _⟩ := HS1.out.tok HC.out HT.out
  simp only [Value.slice.injEq, Option.some.injEq, Addr.mk.injEq] at hlv
  obtain ⟨⟨rfl, _⟩, _, rfl⟩ := hlv
  by_cases hn : 1 ≤ t.n ∧ t.n ≤ 8
  case neg =>
    have HP := Lib.hid (times_far ht hi hk hn)
    have HQ : Hid ((decide (1 ≤ t.n) && decide (t.n ≤ 8)) = false) := Lib.hid (by rw [HLO.out]; simpa using hn)
    clear hn hs
    go_region_held3 (fun w' => w'.cell? ⟨g, 0, none⟩ = some (.slice (some ⟨tb, 0, none⟩) L.length tc) ∧ w'.cell? ⟨g, 1, none⟩ = some (.int .i64 i) ∧ w'.cell? ⟨tb, i * 4 + 2, none⟩ = some (.int .i64 t.n) ∧ Below W.heap.size W w')
      (first | exact ⟨c0, c1, t2, Below.refl _ _⟩ | exact ⟨c0, c1, t2, below_dr _⟩ | exact toks_stay2 (w1 := W.drew) hgl hb0 ⟨c0, c1, t2, below_dr _⟩ hb1)
      (first | (go_at_call 85; refine (looped_any t.n _).mono ?_; rw [HQ.out]; rintro e w1 ⟨rfl, hb1⟩))
    have HB2 := Lib.hid (below_then HB1.out (below_then (below_dr W) hb1))
    have HS2 := Lib.hid (HS.out.on HB2.out)
    have HK1 := Lib.hid (KeepP.of (P := fun k => k = g ∨ k = b) HB2.out)
    clear hb1
    go_wp2_with fail
    refine (fail4 HC.out HS2.out 11).mono ?_
    intro e w2 hf
    have HF := Lib.hid (hf.reads (ok := (fun n i' w' => St4 L W0 g (.slice (some ⟨tb, 0, none⟩) L.length tc) i' d l m pl K kv w' ∧ w'.heap[b]? = some (.cells (cs.setIfInBounds j (.int .i64 n)) 31 (0, 0)))) HP.out HK1.out (.inl rfl))
    obtain ⟨rfl, _, _⟩ := hf
    go_wp2_with fail
    go_ret
    exact HF.out
  case pos =>
  have HP := Lib.hid (times_yes ht hk hn)
  have HQ : Hid ((decide (1 ≤ t.n) && decide (t.n ≤ 8)) = true) := Lib.hid (by rw [HLO.out]; simpa using hn)
  clear hn hs ht
  go_region_held3 (fun w' => w'.cell? ⟨g, 0, none⟩ = some (.slice (some ⟨tb, 0, none⟩) L.length tc) ∧ w'.cell? ⟨g, 1, none⟩ = some (.int .i64 i) ∧ w'.cell? ⟨tb, i * 4 + 2, none⟩ = some (.int .i64 t.n) ∧ Below W.heap.size W w')
    (first | exact ⟨c0, c1, t2, Below.refl _ _⟩ | exact ⟨c0, c1, t2, below_dr _⟩ | exact toks_stay2 (w1 := W.drew) hgl hb0 ⟨c0, c1, t2, below_dr _⟩ hb1)
    (first | (go_at_call 85; refine (looped_any t.n _).mono ?_; rw [HQ.out]; rintro e w1 ⟨rfl, hb1⟩))
  have HB2 := Lib.hid (below_then HB1.out (below_then (below_dr W) hb1))
  have HS2 := Lib.hid (HS.out.on HB2.out)
  have hbk1 : w1.heap[b]? = some (.cells cs 31 (0, 0)) := by rw [HB2.out.block b hlb]; exact HB.out
  have HB3 := Lib.hid hbk1
  clear hb1 c0 c1 t2 hgl hb0
  obtain ⟨tb', tc', hlv, _, hb0, _, _, _, t2, _⟩ := HS2.out.tok HC.out HT.out
  simp only [Value.slice.injEq, Option.some.injEq, Addr.mk.injEq] at hlv
  obtain ⟨⟨rfl, _⟩, _, rfl⟩ := hlv
  have hgl := HS2.out.lt
  have c0 := HS2.out.c0
  have c1 := HS2.out.c1
  have f1 := HS2.out.fz 1
  have cb : w1.cell? ⟨b, j, none⟩ = some old := by rw [Lib.cell_of_heap hbk1]; exact hj
  have fb : w1.frozen? ⟨b, j, none⟩ = false := Lib.frozen_of_heap hbk1 j
  have hne : ¬ b = g := HA.out.ne
  have hne2 : ¬ g = b := fun e => HA.out.ne e.symm
  have hw1 : IntKind.i64.wrap ((i : Int) + 1) = (i : Int) + 1 := IntWalk.i64_in _ (by omega)
  clear hbk1
  go_wp2_with fail
  go_region
  go_wp2_with fail
  go_ret
  rw [HP.out]
  obtain ⟨q1, q2⟩ := wrote_one (j := j) (x := .int .i64 t.n) (i' := i + 1) HS2.out HB3.out HA.out (by omega) (by have := HS2.out.mi; omega)
  exact ⟨rfl, ⟨q1.on (below_dr _), q2⟩, kept_wrote HB2.out⟩
end
end Go.Proofs.YtpeohfgadnfnpaaGreatDoor
