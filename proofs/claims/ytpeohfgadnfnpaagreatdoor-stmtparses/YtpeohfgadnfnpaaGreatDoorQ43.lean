/-
  DERIVED. Texts of the walk, packed: RefParse, DSt, DFail.
-/
import Derived.Test.YtpeohfgadnfnpaaGreatDoorQ42
import Derived.Test.YtpeohfgadnfnpaaGreatDoorQ17
import Derived.Test.YtpeohfgadnfnpaaGreatDoorQ31
import Derived.Test.YtpeohfgadnfnpaaGreatDoorQ39
/-
  DERIVED. Layer 3: the contract of the document's Parse (leadlineref03): the expression that begins at any token.
-/
namespace Go.Proofs.YtpeohfgadnfnpaaGreatDoor
open Go.RowKit

theorem floor_step (L : List Tok) (f : Nat) (hl : L.length ≤ 10000) (hc : ∀ f', f' ≤ f → FloorSays L f') (hs : PrimeSays L f) : FloorSays L (f + 1) := by
  intro n i d r v w hn hd hr h
  rw [chainF] at hr
  by_cases h6 : n = 5
  · subst h6
    rw [if_pos rfl] at hr
    exact floor_five L f hs i d r v w hd hr h
  · rw [if_neg (by omega)] at hr
    cases hch : chainF L f (n + 1 + 1) i d with
    | none => rw [hch] at hr; cases hr
    | some r1 =>
      rw [hch] at hr
      cases r1 with
      | ok x tu => exact floor_loop L f n i d hc x tu r v w hl (by omega) hd hch hr h
      | bad e j =>
        simp at hr
        subst hr
        exact floor_bad L f n i d (hc f (Nat.le_refl _)) e j v w (by omega) hd hch h
theorem rsays_all (L : List Tok) (hl : L.length ≤ 10000) (hsm : SmallT L) : ∀ f, (∀ f', f' ≤ f → FloorSays L f') ∧ PrimeSays L f := by
  intro f
  induction f with
  | zero =>
    refine ⟨fun f' hf' => ?_, fun i d r v w _ hr => by simp [singleF] at hr⟩
    obtain rfl : f' = 0 := by omega
    exact fun n i d r v w _ _ hr => by simp [chainF] at hr
  | succ f ih =>
    refine ⟨fun f' hf' => ?_, prime_step L f hl hsm (ih.1 f (Nat.le_refl _)) ih.2⟩
    by_cases e : f' = f + 1
    · subst e; exact floor_step L f hl ih.1 ih.2
    · exact ih.1 f' (by omega)

set_option maxRecDepth 100000 in
set_option maxHeartbeats 4000000 in
theorem rparse_any (v : Value) (L : List Tok) (i : Int) (w : World) (h : ReadT w v L) (hl : L.length ≤ 10000) (hsm : SmallT L) : Calls Tryz.prog 124 #[v, .int .i64 i] w (GivesE (exprV L i) w) := by
  by_cases hi : i < 0
  · have HQ : Hid (exprV L i = ⟨[], 0, 1, 0⟩) := Lib.hid (by unfold exprV; rw [if_pos hi])
    clear h
    go_enter Tryz.func124, Tryz.ntmps124
    go_wp2_with fail
    refine bodyPost_ret (v := .tuple #[.slice none 0 0, .int .i64 0, .int .i64 1, .int .i64 (0)]) (by simp [results, Tryz.results124, go_sem]) rfl ?_
    exact givesE_of (q' := ⟨[], 0, 1, 0⟩) rfl HQ.out (ownN_nil _ _) (Below.refl _ _)
  · obtain ⟨k, rfl⟩ : ∃ k : Nat, i = k := ⟨i.toNat, by omega⟩
    have HC := Lib.hid (((rsays_all L hl hsm (20 * (L.length - k) + 12)).1 _ (Nat.le_refl _)) 0 k 0 (parseR L k) v w (by omega) (by omega) (parseR_chain L k) h)
    have HF := Lib.hid (parseR_fine L k)
    have HX := Lib.hid (exprV_nat L k)
    have HR := Lib.hid h
    obtain ⟨A0, cc0, rfl, _, _⟩ := h
    clear hsm hi
    generalize parseR L k = r at *
    go_enter Tryz.func124, Tryz.ntmps124
    go_wp2_with fail
    refine HC.out.mono ?_
    rintro e w1 ⟨A, n, c, rfl, ho, hb⟩
    have HO := Lib.hid ho
    have HB := Lib.hid hb
    clear ho hb HC
    cases r with
    | bad er j =>
      have her := fine_err HF.out
      have HX2 : Hid (exprV L k = ⟨[], 0, er, placeV L j⟩) := Lib.hid HX.out
      have HPL : Hid (plOf L (.bad er j) = placeV L j) := Lib.hid rfl
      generalize hpl : plOf L (.bad er j) = pl at *
      clear hpl
      simp only [toOf, errOf] at *
      have HB2 := Lib.hid (HB.out.alloc HB.out.size (.cells #[.slice A n c, .int .i64 ((0 : Nat) : Int), .int .i64 er, .int .i64 pl] 160))
      go_wp2_with fail
      go_quiet (fail)
      go_wp2_with fail
      refine bodyPost_ret (v := .tuple #[.slice none 0 0, .int .i64 0, .int .i64 er, .int .i64 pl]) (by simp [results, Tryz.results124, go_sem]) rfl ?_
      rw [HPL.out]
      exact givesE_of (q' := ⟨[], 0, er, placeV L j⟩) rfl HX2.out (ownN_nil _ _) (by rw [← HPL.out]; exact HB2.out.trans (below_anyN _ _ _))
    | ok x tu =>
      obtain ⟨h1, h2, h3, h4, h5⟩ := HF.out
      have hfl := flat_len x
      have hdz := deep_size x
      have HOK := Lib.hid h3
      have ho' : OwnN w1 w.heap.size (.slice A n c) x.flat := HO.out
      have hn := ho'.read.len.1
      have hat : L[k]? = some L[k] := List.getElem?_eq_getElem (by omega)
      generalize L[k] = t at *
      have HPL := Lib.hid (place_in hat)
      simp only [toOf, errOf, plOf] at *
      have HB2 := Lib.hid (HB.out.alloc HB.out.size (.cells #[.slice A n c, .int .i64 (tu : Int), .int .i64 0, .int .i64 0] 160))
      have hbx := (Below.refl w1.heap.size w1).alloc (Nat.le_refl _) (.cells #[.slice A n c, .int .i64 (tu : Int), .int .i64 0, .int .i64 0] 160)
      have HOX := Lib.hid (ho'.on hbx)
      have HPX := Lib.hid (pq_new w1 (.slice A n c) (.int .i64 (tu : Int)) (.int .i64 0) (.int .i64 0) 160)
      obtain ⟨A', c', hv', _, hr'⟩ := HR.out.on HB2.out
      obtain ⟨b', hA', hbg', x0, x1, x2, x3⟩ := hr' k t hat
      subst hA'
      simp only [Value.slice.injEq] at hv'
      obtain ⟨rfl, hdrop, rfl⟩ := hv'
      clear hdrop hr' x0 x1 x2
      have hki : (k : Int) < (L.length : Int) := by omega
      have HN := Lib.hid hn
      have hns : n ≤ x.size ∧ x.size ≤ n := by omega
      have HD : Hid (x.flat.drop 0 = x.flat ++ []) := Lib.hid (by simp)
      have hfl2 : x.flat.length ≤ 10000 := by omega
      clear h5 hat hn hfl ho' hbx h3
      go_upto_region 4 with (fail)
      generalize w1.alloc (.cells #[.slice A n c, .int .i64 (tu : Int), .int .i64 0, .int .i64 0] 160) = X at *
      obtain ⟨z0, z1, z2, z3, z4, z5, z6, z7, z8⟩ := HPX.out
      go_wp2_with fail
      refine (rdeep_any x.size x _ x.flat 0 [] _ (Nat.le_refl _) HOK.out HOX.out.read hfl2 HD.out).mono ?_
      rintro e _ ⟨rfl, rfl⟩
      by_cases hd : 12 < x.deep
      · have HX2 : Hid (exprV L k = ⟨[], 0, 7, t.pl⟩) := Lib.hid (by rw [HX.out, exprR_deep hd, HPL.out])
        have hdi : (12 : Int) < (x.deep : Int) := by omega
        clear hns
        go_wp2_with fail
        go_quiet (fail)
        go_wp2_with fail
        refine bodyPost_ret (v := .tuple #[.slice none 0 0, .int .i64 0, .int .i64 7, .int .i64 t.pl]) (by simp [results, Tryz.results124, go_sem]) rfl ?_
        exact givesE_of (q' := ⟨[], 0, 7, t.pl⟩) rfl HX2.out (ownN_nil _ _) (HB2.out.trans (below_anyN _ _ _))
      · have hdi : ¬ (12 : Int) < (x.deep : Int) := by omega
        by_cases hs : 40 < x.size
        · have HX2 : Hid (exprV L k = ⟨[], 0, 2, t.pl⟩) := Lib.hid (by rw [HX.out, exprR_big hd hs, HPL.out])
          have hsi : (40 : Int) < (n : Int) := by omega
          clear hns
          go_wp2_with fail
          go_quiet (fail)
          go_wp2_with fail
          refine bodyPost_ret (v := .tuple #[.slice none 0 0, .int .i64 0, .int .i64 2, .int .i64 t.pl]) (by simp [results, Tryz.results124, go_sem]) rfl ?_
          exact givesE_of (q' := ⟨[], 0, 2, t.pl⟩) rfl HX2.out (ownN_nil _ _) (HB2.out.trans (below_anyN _ _ _))
        · have HX2 : Hid (exprV L k = ⟨x.flat, tu, 0, 0⟩) := Lib.hid (by rw [HX.out, exprR_ok hd hs])
          have hsi : ¬ (40 : Int) < (n : Int) := by omega
          clear hns
          go_wp2_with fail
          go_quiet (fail)
          go_wp2_with fail
          refine bodyPost_ret (v := .tuple #[.slice A n c, .int .i64 tu, .int .i64 0, .int .i64 0]) (by simp [results, Tryz.results124, go_sem]) rfl ?_
          exact givesE_of (q' := ⟨x.flat, tu, 0, 0⟩) rfl HX2.out (HOX.out.on (below_drew1 _ _)) (HB2.out.trans (below_anyN _ _ _))
end Go.Proofs.YtpeohfgadnfnpaaGreatDoor
/-
  DERIVED. Layer 4: the document's reader (leadlineref04) as it stands in memory: its five cells, the row of what it has read.
-/
namespace Go.Proofs.YtpeohfgadnfnpaaGreatDoor
open Go.RowKit

/-- What is read, but for what it is. -/
def RS.unit {α : Type} : RS α → RS Unit
  | .ok _ j => .ok () j
  | .bad e p => .bad e p
def RS.got {α : Type} (r : RS α) (a : α) : Prop := match r with
  | .ok b _ => a = b
  | .bad _ _ => True
@[simp] theorem RS.unit_ok {α : Type} (a : α) (j : Nat) : (RS.ok a j).unit = .ok () j := rfl
@[simp] theorem RS.unit_bad {α : Type} (e p : Int) : (RS.bad e p : RS α).unit = .bad e p := rfl
theorem got_ok {α : Type} {a b : α} {j : Nat} (h : (RS.ok b j).got a) : a = b := h
/-- How the reader stands: at a token, or with an error. -/
def Stands (t : RS Unit) (i : Nat) (er pos : Int) : Prop := match t with
  | .ok _ j => i = j ∧ er = 0
  | .bad e p => er = e ∧ pos = p ∧ e ≠ 0
/-- The document's reader. -/
structure Sr (L : List Tok) (W0 : World) (g : Nat) (lv : Value) (t : RS Unit) (K : List Sv) (kv : Value) (w : World) : Prop where
  low : Below W0.heap.size W0 w
  gB : W0.heap.size ≤ g
  blk : ∃ (i : Nat) (er pos : Int), w.heap[g]? = some (.cells #[lv, .int .i64 i, .int .i64 er, .int .i64 pos, kv] 49 (0, 0)) ∧ Stands t i er pos
  row : w.ownsRow W0.heap.size 31 9 kv K.length (cellsV K)
  rds : ∀ x ∈ K, ReadE W0.heap.size w x.vE x.s.e ∧ ReadE W0.heap.size w x.vF x.s.f
section
variable {L : List Tok} {W0 : World} {g : Nat} {lv : Value} {t : RS Unit} {K : List Sv} {kv : Value} {w : World}
theorem Sr.lt (h : Sr L W0 g lv t K kv w) : g < w.heap.size := by
  obtain ⟨i, er, pos, hb, _⟩ := h.blk
  exact (Array.getElem?_eq_some_iff.1 hb).1
theorem Sr.own_ne (h : Sr L W0 g lv t K kv w) : ∀ q, kv.ownBlock = some q → q ≠ g ∧ q < w.heap.size ∧ W0.heap.size ≤ q := by
  intro q hq
  obtain ⟨i, er, pos, hb, _⟩ := h.blk
  obtain ⟨hB, cs, hh⟩ := row_type h.row q hq
  refine ⟨?_, (Array.getElem?_eq_some_iff.1 hh).1, hB⟩
  rintro rfl
  rw [hb] at hh
  simp at hh
theorem Sr.mine_low (h : Sr L W0 g lv t K kv w) : ∀ k, k < W0.heap.size → ¬ Mine g kv k := by
  rintro k hk (rfl | hq)
  · have := h.gB; omega
  · have := (h.own_ne k hq).2.2; omega
theorem Sr.mine_nodes (h : Sr L W0 g lv t K kv w) : ∀ q cs fr, w.heap[q]? = some (.cells cs 33 fr) → ¬ Mine g kv q := by
  rintro q cs fr hh (rfl | hq)
  · obtain ⟨i, er, pos, hb, _⟩ := h.blk
    rw [hb] at hh; simp at hh
  · obtain ⟨_, cs', hh'⟩ := row_type h.row q hq
    rw [hh'] at hh; simp at hh
/-- The five cells, and that they may be written. -/
structure P5d (w : World) (g : Nat) (a0 a1 a2 a3 a4 : Value) : Prop where
  lt : g < w.heap.size
  c0 : w.cell? ⟨g, 0, none⟩ = some a0
  c1 : w.cell? ⟨g, 1, none⟩ = some a1
  c2 : w.cell? ⟨g, 2, none⟩ = some a2
  c3 : w.cell? ⟨g, 3, none⟩ = some a3
  c4 : w.cell? ⟨g, 4, none⟩ = some a4
  f1 : w.frozen? ⟨g, 1, none⟩ = false
  f2 : w.frozen? ⟨g, 2, none⟩ = false
  f3 : w.frozen? ⟨g, 3, none⟩ = false
  f4 : w.frozen? ⟨g, 4, none⟩ = false
theorem p5d_of {a0 a1 a2 a3 a4 : Value} (h : w.heap[g]? = some (.cells #[a0, a1, a2, a3, a4] 49 (0, 0))) : P5d w g a0 a1 a2 a3 a4 :=
  ⟨(Array.getElem?_eq_some_iff.1 h).1, by rw [Lib.cell_of_heap h]; rfl, by rw [Lib.cell_of_heap h]; rfl, by rw [Lib.cell_of_heap h]; rfl, by rw [Lib.cell_of_heap h]; rfl, by rw [Lib.cell_of_heap h]; rfl, Lib.frozen_of_heap h 1, Lib.frozen_of_heap h 2, Lib.frozen_of_heap h 3, Lib.frozen_of_heap h 4⟩
theorem Sr.okc {i : Nat} (h : Sr L W0 g lv (.ok () i) K kv w) : ∃ pos : Int, w.heap[g]? = some (.cells #[lv, .int .i64 i, .int .i64 0, .int .i64 pos, kv] 49 (0, 0)) ∧ P5d w g lv (.int .i64 i) (.int .i64 0) (.int .i64 pos) kv := by
  obtain ⟨j, er, pos, hb, h1, h2⟩ := h.blk
  subst h1 h2
  exact ⟨pos, hb, p5d_of hb⟩
theorem Sr.badc {e p : Int} (h : Sr L W0 g lv (.bad e p) K kv w) : ∃ j : Nat, w.heap[g]? = some (.cells #[lv, .int .i64 j, .int .i64 e, .int .i64 p, kv] 49 (0, 0)) ∧ P5d w g lv (.int .i64 j) (.int .i64 e) (.int .i64 p) kv ∧ e ≠ 0 := by
  obtain ⟨j, er, pos, hb, h1, h2, h3⟩ := h.blk
  subst h1 h2
  exact ⟨j, hb, p5d_of hb, h3⟩
/-- The reader in another world, of which nothing but its own block has turned. -/
theorem Sr.put (h : Sr L W0 g lv t K kv w) {w' : World} {t' : RS Unit} {i : Nat} {er pos : Int} (hk : KeepP (fun k => k = g) w w') (hb : w'.heap[g]? = some (.cells #[lv, .int .i64 i, .int .i64 er, .int .i64 pos, kv] 49 (0, 0))) (hs : Stands t' i er pos) : Sr L W0 g lv t' K kv w' := by
  have hg := h.gB
  refine ⟨h.low.trans (hk.below (fun k hk e => by omega) h.low.size), hg, ⟨i, er, pos, hb, hs⟩, row_keep h.row hk (fun q hq e => (h.own_ne q hq).1 e), fun x hx => ?_⟩
  obtain ⟨h1, h2⟩ := h.rds x hx
  have hn : ∀ q cs fr, w.heap[q]? = some (.cells cs 33 fr) → ¬ (q = g) := fun q cs fr hh e => h.mine_nodes q cs fr hh (.inl e)
  exact ⟨h1.keep hk hn, h2.keep hk hn⟩
theorem Sr.on (h : Sr L W0 g lv t K kv w) {w' : World} (hb : Below w.heap.size w w') : Sr L W0 g lv t K kv w' := by
  obtain ⟨i, er, pos, hc, hs⟩ := h.blk
  exact h.put (KeepP.of hb) (by rw [hb.block g h.lt]; exact hc) hs
theorem Sr.toks (h : Sr L W0 g lv t K kv w) (hs : Src L W0 lv) : ReadT w lv L := by
  obtain ⟨A, c, hv, hc, hr⟩ := hs.toks
  refine ⟨A, c, hv, hc, fun i t hi => ?_⟩
  obtain ⟨b, hA, hb, h0, h1, h2, h3⟩ := hr i t hi
  have e : ∀ j, w.cell? ⟨b, j, none⟩ = W0.cell? ⟨b, j, none⟩ := fun j => h.low.cell (p := ⟨b, j, none⟩) hb
  exact ⟨b, hA, Nat.lt_of_lt_of_le hb h.low.size, by rw [e]; exact h0, by rw [e]; exact h1, by rw [e]; exact h2, by rw [e]; exact h3⟩
theorem Sr.tok {i : Nat} (h : Sr L W0 g lv t K kv w) (hs : Src L W0 lv) {x : Tok} (ht : L[i]? = some x) : ∃ b c, lv = .slice (some ⟨b, 0, none⟩) L.length c ∧ L.length ≤ c ∧ b < w.heap.size ∧ w.cell? ⟨b, i * 4, none⟩ = some (.int .i64 x.kind) ∧ w.cell? ⟨b, i * 4 + 1, none⟩ = some (.string ⟨x.text.toArray⟩) ∧ w.cell? ⟨b, i * 4 + 2, none⟩ = some (.int .i64 x.n) ∧ w.cell? ⟨b, i * 4 + 3, none⟩ = some (.int .i64 x.pl) := by
  obtain ⟨A, c, hv, hc, hr⟩ := h.toks hs
  obtain ⟨b, hA, hb, h0, h1, h2, h3⟩ := hr i x ht
  exact ⟨b, c, by rw [hv, hA], hc, hb, h0, h1, h2, h3⟩
theorem Sr.set1 {i j : Nat} (h : Sr L W0 g lv (.ok () i) K kv w) : Sr L W0 g lv (.ok () j) K kv (w.setCell ⟨g, 1, none⟩ (.int .i64 j)) := by
  obtain ⟨pos, hb, _⟩ := h.okc
  exact h.put (i := j) (er := 0) (pos := pos) KeepP.set (set_blk hb) ⟨rfl, rfl⟩
/-- An error, and its place, are written. -/
theorem Sr.err {i : Nat} {er p : Int} (h : Sr L W0 g lv (.ok () i) K kv w) (he : er ≠ 0) : Sr L W0 g lv (.bad er p) K kv ((w.setCell ⟨g, 2, none⟩ (.int .i64 er)).setCell ⟨g, 3, none⟩ (.int .i64 p)) := by
  obtain ⟨pos, hb, _⟩ := h.okc
  exact h.put (i := i) (er := er) (pos := p) (KeepP.set.trans KeepP.set (fun _ _ h => h) (fun _ _ h => h)) (set_blk (set_blk hb)) ⟨rfl, rfl, he⟩
/-- What a call that tells nothing leaves. -/
def Turns (L : List Tok) (W0 : World) (g : Nat) (lv : Value) (t : RS Unit) (K : List Sv) (kv : Value) (w : World) (e : Ending) (w' : World) : Prop :=
  e = .returned (.tuple #[]) ∧ Sr L W0 g lv t K kv w' ∧ KeepP (fun k => k = g) w w'
end
end Go.Proofs.YtpeohfgadnfnpaaGreatDoor
/-
  DERIVED. Layer 4: contracts of the document's reader (leadlineref04): bad, must.
-/
namespace Go.Proofs.YtpeohfgadnfnpaaGreatDoor
open Go.RowKit

section
variable {L : List Tok} {W0 : World} {g : Nat} {lv : Value} {t : RS Unit} {K : List Sv} {kv : Value} {w : World}
theorem held_below {w1 w2 : World} {j : Nat} {a b : Value} (hg : g < w.heap.size) (k : w1.cell? ⟨g, 0, none⟩ = some a ∧ w1.cell? ⟨g, 1, none⟩ = some b ∧ w1.cell? ⟨g, j, none⟩ = some (heldAt g j w1) ∧ w1.frozen? ⟨g, j, none⟩ = false ∧ w.heap.size ≤ w1.heap.size) (hb : Below w1.heap.size w1 w2) : w2.cell? ⟨g, 0, none⟩ = some a ∧ w2.cell? ⟨g, 1, none⟩ = some b ∧ w2.cell? ⟨g, j, none⟩ = some (heldAt g j w2) ∧ w2.frozen? ⟨g, j, none⟩ = false ∧ w.heap.size ≤ w2.heap.size := by
  obtain ⟨k0, k1, k2, k3, kb⟩ := k
  have hl : g < w1.heap.size := Nat.lt_of_lt_of_le hg kb
  have q : ∀ j, w2.cell? ⟨g, j, none⟩ = w1.cell? ⟨g, j, none⟩ := fun j => hb.cell (p := ⟨g, j, none⟩) hl
  exact ⟨by rw [q, k0], by rw [q, k1], held_of ((q j).trans k2), (hb.frozen (p := ⟨g, j, none⟩) hl).trans k3, Nat.le_trans kb hb.size⟩
theorem held_set {w1 : World} {j : Nat} {a b x : Value} (h0 : j ≠ 0) (h1 : j ≠ 1) (k : w1.cell? ⟨g, 0, none⟩ = some a ∧ w1.cell? ⟨g, 1, none⟩ = some b ∧ w1.cell? ⟨g, j, none⟩ = some (heldAt g j w1) ∧ w1.frozen? ⟨g, j, none⟩ = false ∧ w.heap.size ≤ w1.heap.size) : (w1.setCell ⟨g, j, none⟩ x).cell? ⟨g, 0, none⟩ = some a ∧ (w1.setCell ⟨g, j, none⟩ x).cell? ⟨g, 1, none⟩ = some b ∧ (w1.setCell ⟨g, j, none⟩ x).cell? ⟨g, j, none⟩ = some (heldAt g j (w1.setCell ⟨g, j, none⟩ x)) ∧ (w1.setCell ⟨g, j, none⟩ x).frozen? ⟨g, j, none⟩ = false ∧ w.heap.size ≤ (w1.setCell ⟨g, j, none⟩ x).heap.size := by
  obtain ⟨k0, k1, k2, k3, kb⟩ := k
  exact ⟨(World.cell?_setCell_other _ _ _ _ (by simp <;> omega)).trans k0, (World.cell?_setCell_other _ _ _ _ (by simp <;> omega)).trans k1, held_of (World.cell?_setCell_same _ _ _ k2), by simpa using k3, by simpa using kb⟩
/-- Nothing but the reader's block has turned: what it reads of is still there. -/
theorem Sr.toksk (h : Sr L W0 g lv t K kv w) {w' : World} (hk : KeepP (fun k => k = g) w w') (hs : Src L W0 lv) : ReadT w' lv L := by
  obtain ⟨i, er, pos, hb, hst⟩ := h.blk
  obtain ⟨A, c, hv, hc, hr⟩ := h.toks hs
  obtain ⟨A1, c1, hv1, _, hr1⟩ := hs.toks
  have hg := h.gB
  refine ⟨A, c, hv, hc, fun i t hi => ?_⟩
  obtain ⟨b, hA, hb', h0, h1, h2, h3⟩ := hr i t hi
  obtain ⟨b1, hA1, hb1, _⟩ := hr1 i t hi
  have e1 : b = b1 := by
    have h5 := hv.symm.trans hv1
    simp only [Value.slice.injEq] at h5
    have h6 := h5.1
    rw [hA, hA1] at h6
    simpa using h6
  have hne : b ≠ g := by omega
  have e : ∀ j, w'.cell? ⟨b, j, none⟩ = w.cell? ⟨b, j, none⟩ := fun j => World.cell?_of_block (a := ⟨b, j, none⟩) (hk.block b hb' hne)
  exact ⟨b, hA, Nat.lt_of_lt_of_le hb' hk.size, by rw [e]; exact h0, by rw [e]; exact h1, by rw [e]; exact h2, by rw [e]; exact h3⟩
abbrev five (lv : Value) (i : Nat) (er pos : Int) (kv : Value) : Obj := .cells #[lv, .int .i64 i, .int .i64 er, .int .i64 pos, kv] 49 (0, 0)
set_option maxRecDepth 100000 in
set_option maxHeartbeats 4000000 in
theorem dbad (hs : Src L W0 lv) (h : Sr L W0 g lv t K kv w) {er : Int} (he : er ≠ 0) : Calls Tryz.prog 45 #[.pointer (some ⟨g, 0, none⟩), .int .i64 er] w (Turns L W0 g lv (t.bind fun _ i => badR L i er) K kv w) := by
  have HC := Lib.hid hs
  have HS := Lib.hid h
  have hgl := h.lt
  cases t with
  | bad e p =>
    obtain ⟨j, _, ⟨_, c0, c1, c2, c3, c4, f1, f2, f3, f4⟩, hne⟩ := h.badc
    have hz : (e == 0) = false := by simp [hne]
    clear h hs hne
    go_enter Tryz.func45, Tryz.ntmps45
    go_wp2_with fail
    refine bodyPost_ret (v := .tuple #[]) (by simp [results, Tryz.results45, go_sem]) rfl ?_
    exact ⟨rfl, HS.out, KeepP.refl _ _⟩
  | ok u i =>
    obtain ⟨pos, hb, ⟨_, c0, c1, c2, c3, c4, f1, f2, f3, f4⟩⟩ := h.okc
    have HB := Lib.hid hb
    obtain ⟨A, c, rfl, hc, _⟩ := hs.toks
    have HE := Lib.hid he
    have hlen := hs.len
    by_cases hi : i < L.length
    · have HR : Hid ((RS.ok u i).bind (fun _ i => (badR L i er : RS Unit)) = .bad er (placeV L i)) := Lib.hid (by simp [badR, hi])
      have hI : ¬ (L.length : Int) ≤ (i : Int) := by omega
      clear h hs hb he
      go_enter Tryz.func45, Tryz.ntmps45
      go_wp2_with fail
      go_quiet (fail)
      obtain ⟨W2, hW2⟩ : ∃ W2, (w.setCell ⟨g, 2, none⟩ (.int .i64 er)).drewN nq = W2 := ⟨_, rfl⟩
      have hk2 : KeepP (fun k => k = g) w W2 := by rw [← hW2]; exact KeepP.set.trans (KeepP.of (P := fun _ => False) (below_drew1 _ nq)) (fun _ _ h => h) (fun _ _ h => h.elim)
      have hb2 : W2.heap[g]? = some (five (.slice A L.length c) i er pos kv) := by rw [← hW2]; exact set_blk HB.out
      rw [hW2]
      have HK2 := Lib.hid hk2
      have HB2 := Lib.hid hb2
      obtain ⟨hgl2, d0, d1, d2, d3, d4, e1, e2, e3, e4⟩ := p5d_of hb2
      have d3' : W2.cell? ⟨g, 3, none⟩ = some (heldAt g 3 W2) := held_of d3
      clear hW2 hk2 hb2 c0 c1 c2 c3 c4 f1 f2 f3 f4
      go_wp2_with fail
      go_region_held3 (fun w' => w'.cell? ⟨g, 0, none⟩ = some (.slice A L.length c) ∧ w'.cell? ⟨g, 1, none⟩ = some (.int .i64 i) ∧ w'.cell? ⟨g, 3, none⟩ = some (heldAt g 3 w') ∧ w'.frozen? ⟨g, 3, none⟩ = false ∧ W2.heap.size ≤ w'.heap.size)
        (first | exact ⟨d0, d1, d3', e3, Nat.le_refl _⟩ | exact held_below (w1 := W2.drew) hgl2 ⟨d0, d1, d3', e3, Nat.le_refl _⟩ hb1 | exact held_set (by omega) (by omega) (held_below (w1 := W2.drew) hgl2 ⟨d0, d1, d3', e3, Nat.le_refl _⟩ hb1))
        (first | (go_at_call 68; refine (rplace_any _ L i _ (HS.out.toksk (HK2.out.trans (KeepP.of (P := fun _ => False) (below_dr W2)) (fun _ _ h => h) (fun _ _ h => h.elim)) HC.out) HC.out.len HC.out.small).mono ?_; rintro e w1 ⟨rfl, hb1⟩))
      have HB3 := Lib.hid (below_then (below_dr W2) hb1)
      clear hb1
      go_wp2_with fail
      refine bodyPost_ret (v := .tuple #[]) (by simp [results, Tryz.results45, go_sem]) rfl ?_
      have hk3 := (HK2.out.trans (KeepP.of (P := fun _ => False) HB3.out) (fun _ _ h => h) (fun _ _ h => h.elim)).trans (KeepP.set (g := g) (j := 3) (v := .int .i64 (placeV L i))) (R := fun k => k = g) (fun _ _ h => h) (fun _ _ h => h)
      have hb3 := HB3.out.block g hgl2
      rw [HB2.out] at hb3
      exact ⟨rfl, by rw [HR.out]; exact HS.out.put (i := i) (er := er) (pos := placeV L i) hk3 (set_blk hb3) ⟨rfl, rfl, HE.out⟩, hk3⟩
    · have HR : Hid ((RS.ok u i).bind (fun _ i => (badR L i er : RS Unit)) = .bad 6 (placeV L i)) := Lib.hid (by simp [badR, hi])
      have hI : (L.length : Int) ≤ (i : Int) := by omega
      clear h hs hb he
      go_enter Tryz.func45, Tryz.ntmps45
      go_wp2_with fail
      go_quiet (fail)
      go_upto_region 4 with (fail)
      obtain ⟨W2, hW2⟩ : ∃ W2, ((w.setCell ⟨g, 2, none⟩ (.int .i64 er)).drewN nq).setCell ⟨g, 2, none⟩ (.int .i64 6) = W2 := ⟨_, rfl⟩
      have hk2 : KeepP (fun k => k = g) w W2 := by rw [← hW2]; exact (KeepP.set.trans (KeepP.of (P := fun _ => False) (below_drew1 _ nq)) (fun _ _ h => h) (fun _ _ h => h.elim)).trans KeepP.set (fun _ _ h => h) (fun _ _ h => h)
      have hb2 : W2.heap[g]? = some (five (.slice A L.length c) i 6 pos kv) := by rw [← hW2]; exact set_blk (set_blk HB.out)
      rw [hW2]
      have HK2 := Lib.hid hk2
      have HB2 := Lib.hid hb2
      obtain ⟨hgl2, d0, d1, d2, d3, d4, e1, e2, e3, e4⟩ := p5d_of hb2
      have d3' : W2.cell? ⟨g, 3, none⟩ = some (heldAt g 3 W2) := held_of d3
      clear hW2 hk2 hb2 c0 c1 c2 c3 c4 f1 f2 f3 f4
      go_wp2_with fail
      go_region_held3 (fun w' => w'.cell? ⟨g, 0, none⟩ = some (.slice A L.length c) ∧ w'.cell? ⟨g, 1, none⟩ = some (.int .i64 i) ∧ w'.cell? ⟨g, 3, none⟩ = some (heldAt g 3 w') ∧ w'.frozen? ⟨g, 3, none⟩ = false ∧ W2.heap.size ≤ w'.heap.size)
        (first | exact ⟨d0, d1, d3', e3, Nat.le_refl _⟩ | exact held_below (w1 := W2.drew) hgl2 ⟨d0, d1, d3', e3, Nat.le_refl _⟩ hb1 | exact held_set (by omega) (by omega) (held_below (w1 := W2.drew) hgl2 ⟨d0, d1, d3', e3, Nat.le_refl _⟩ hb1))
        (first | (go_at_call 68; refine (rplace_any _ L i _ (HS.out.toksk (HK2.out.trans (KeepP.of (P := fun _ => False) (below_dr W2)) (fun _ _ h => h) (fun _ _ h => h.elim)) HC.out) HC.out.len HC.out.small).mono ?_; rintro e w1 ⟨rfl, hb1⟩))
      have HB3 := Lib.hid (below_then (below_dr W2) hb1)
      clear hb1
      go_wp2_with fail
      refine bodyPost_ret (v := .tuple #[]) (by simp [results, Tryz.results45, go_sem]) rfl ?_
      have hk3 := (HK2.out.trans (KeepP.of (P := fun _ => False) HB3.out) (fun _ _ h => h) (fun _ _ h => h.elim)).trans (KeepP.set (g := g) (j := 3) (v := .int .i64 (placeV L i))) (R := fun k => k = g) (fun _ _ h => h) (fun _ _ h => h)
      have hb3 := HB3.out.block g hgl2
      rw [HB2.out] at hb3
      exact ⟨rfl, by rw [HR.out]; exact HS.out.put (i := i) (er := 6) (pos := placeV L i) hk3 (set_blk hb3) ⟨rfl, rfl, by decide⟩, hk3⟩
theorem kept3d {w1 w2 : World} {a b c : Value} (hg : g < w.heap.size) (k : w1.cell? ⟨g, 0, none⟩ = some a ∧ w1.cell? ⟨g, 1, none⟩ = some b ∧ w1.cell? ⟨g, 2, none⟩ = some c ∧ Below w.heap.size w w1) (hb : Below w1.heap.size w1 w2) : w2.cell? ⟨g, 0, none⟩ = some a ∧ w2.cell? ⟨g, 1, none⟩ = some b ∧ w2.cell? ⟨g, 2, none⟩ = some c ∧ Below w.heap.size w w2 := by
  obtain ⟨k0, k1, k2, kb⟩ := k
  have q : ∀ j, w2.cell? ⟨g, j, none⟩ = w1.cell? ⟨g, j, none⟩ := fun j => hb.cell (p := ⟨g, j, none⟩) (Nat.lt_of_lt_of_le hg kb.size)
  exact ⟨by rw [q, k0], by rw [q, k1], by rw [q, k2], below_then kb hb⟩
theorem KeepP.same {a b c : World} (h : KeepP (fun k => k = g) a b) (k : KeepP (fun k => k = g) b c) : KeepP (fun k => k = g) a c := h.trans k (fun _ _ h => h) (fun _ _ h => h)
set_option maxRecDepth 100000 in
set_option maxHeartbeats 4000000 in
theorem dmust (hs : Src L W0 lv) (h : Sr L W0 g lv t K kv w) (s : List UInt8) : Calls Tryz.prog 46 #[.pointer (some ⟨g, 0, none⟩), .string ⟨s.toArray⟩] w (Turns L W0 g lv (t.bind fun _ i => mustP L i s) K kv w) := by
  have HC := Lib.hid hs
  have HS := Lib.hid h
  have hgl := h.lt
  cases t with
  | bad e p =>
    obtain ⟨j, _, ⟨_, c0, c1, c2, c3, c4, f1, f2, f3, f4⟩, hne⟩ := h.badc
    have hz : (e == 0) = false := by simp [hne]
    clear h hs hne
    go_enter Tryz.func46, Tryz.ntmps46
    go_wp2_with fail
    go_quiet (fail)
    have HS1 := Lib.hid (HS.out.on (below_drew1 _ nq))
    have HK1 := Lib.hid (KeepP.of (P := fun k => k = g) (below_drew1 w nq))
    go_wp2_with fail
    refine (dbad HC.out HS1.out (er := 5) (by decide)).mono ?_
    rintro e1 w1 ⟨rfl, hs1, hk1⟩
    have HS2 := Lib.hid hs1
    have HK2 := Lib.hid (HK1.out.same hk1)
    clear hs1 hk1
    go_wp2_with fail
    refine bodyPost_ret (v := .tuple #[]) (by simp [results, Tryz.results46, go_sem]) rfl ?_
    exact ⟨rfl, HS2.out, HK2.out⟩
  | ok u i =>
    obtain ⟨pos, hb, ⟨_, c0, c1, c2, c3, c4, f1, f2, f3, f4⟩⟩ := h.okc
    have hlen := hs.len
    cases hq : isB L i s with
    | false =>
      have HI := Lib.hid hq
      have HR : Hid ((RS.ok u i).bind (fun _ i => mustP L i s) = (RS.ok u i).bind (fun _ i => (badR L i 5 : RS Unit))) := Lib.hid (by simp [mustP, hq])
      clear h hs hb hq
      go_enter Tryz.func46, Tryz.ntmps46
      go_wp2_with fail
      go_region_held3 (fun w' => w'.cell? ⟨g, 0, none⟩ = some lv ∧ w'.cell? ⟨g, 1, none⟩ = some (.int .i64 i) ∧ w'.cell? ⟨g, 2, none⟩ = some (.int .i64 0) ∧ Below w.heap.size w w')
        (first | exact ⟨c0, c1, c2, Below.refl _ _⟩ | exact ⟨c0, c1, c2, below_dr _⟩ | exact kept3d (w1 := w.drew) hgl ⟨c0, c1, c2, below_dr _⟩ hb1)
        (first | (go_at_call 44; refine (ris_at HI.out lv _ ((HS.out.on (below_dr _)).toks HC.out)).mono ?_; rintro e w1 ⟨rfl, hb1⟩))
      have HB1 := Lib.hid (below_then (below_dr w) hb1)
      have HS1 := Lib.hid (HS.out.on HB1.out)
      have HK1 := Lib.hid (KeepP.of (P := fun k => k = g) HB1.out)
      clear hb1 c0 c1 c2 c3 c4 f1 f2 f3 f4
      go_wp2_with fail
      refine (dbad HC.out HS1.out (er := 5) (by decide)).mono ?_
      rintro e1 w2 ⟨rfl, hs1, hk1⟩
      have HS2 := Lib.hid hs1
      have HK2 := Lib.hid (HK1.out.same hk1)
      clear hs1 hk1
      go_wp2_with fail
      refine bodyPost_ret (v := .tuple #[]) (by simp [results, Tryz.results46, go_sem]) rfl ?_
      exact ⟨rfl, by rw [HR.out]; exact HS2.out, HK2.out⟩
    | true =>
      have HI := Lib.hid hq
      have hil := isB_lt hq
      have HR : Hid ((RS.ok u i).bind (fun _ i => mustP L i s) = .ok () (i + 1)) := Lib.hid (by simp [mustP, hq])
      clear h hs hb hq
      go_enter Tryz.func46, Tryz.ntmps46
      go_wp2_with fail
      go_region_held3 (fun w' => w'.cell? ⟨g, 0, none⟩ = some lv ∧ w'.cell? ⟨g, 1, none⟩ = some (.int .i64 i) ∧ w'.cell? ⟨g, 2, none⟩ = some (.int .i64 0) ∧ Below w.heap.size w w')
        (first | exact ⟨c0, c1, c2, Below.refl _ _⟩ | exact ⟨c0, c1, c2, below_dr _⟩ | exact kept3d (w1 := w.drew) hgl ⟨c0, c1, c2, below_dr _⟩ hb1)
        (first | (go_at_call 44; refine (ris_at HI.out lv _ ((HS.out.on (below_dr _)).toks HC.out)).mono ?_; rintro e w1 ⟨rfl, hb1⟩))
      have HB1 := Lib.hid (below_then (below_dr w) hb1)
      have HS1 := Lib.hid (HS.out.on HB1.out)
      have HK1 := Lib.hid (KeepP.of (P := fun k => k = g) HB1.out)
      clear hb1 c0 c1 c2 c3 c4 f1 f2 f3 f4 hgl
      obtain ⟨pos1, _, ⟨hgl, c0, c1, c2, c3, c4, f1, f2, f3, f4⟩⟩ := HS1.out.okc
      have hw1 : IntKind.i64.wrap ((i : Int) + 1) = (i : Int) + 1 := IntWalk.i64_in _ (by omega)
      go_wp2_with fail
      refine bodyPost_ret (v := .tuple #[]) (by simp [results, Tryz.results46, go_sem]) rfl ?_
      exact ⟨rfl, by rw [HR.out]; exact HS1.out.set1 (j := i + 1), HK1.out.same KeepP.set⟩
end
end Go.Proofs.YtpeohfgadnfnpaaGreatDoor
