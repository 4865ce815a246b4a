/-
  DERIVED. Texts of the walk, packed: DName, DTimes.
-/
import Derived.Test.YtpeohfgadnfnpaaGreatDoorQ43
/-
  DERIVED. Layer 4: contracts of the document's reader (leadlineref04): name, expr, times.
-/
namespace Go.Proofs.YtpeohfgadnfnpaaGreatDoor
open Go.RowKit

section
variable {L : List Tok} {W0 : World} {g : Nat} {lv : Value} {t : RS Unit} {K : List Sv} {kv : Value} {w : World}
/-- What a call that tells a text leaves. -/
def TurnsS (L : List Tok) (W0 : World) (g : Nat) (lv : Value) (r : RS (List UInt8)) (K : List Sv) (kv : Value) (w : World) (e : Ending) (w' : World) : Prop :=
  ∃ s : List UInt8, e = .returned (.string ⟨s.toArray⟩) ∧ r.got s ∧ Sr L W0 g lv r.unit K kv w' ∧ KeepP (fun k => k = g) w w'
def TurnsI (L : List Tok) (W0 : World) (g : Nat) (lv : Value) (r : RS Int) (K : List Sv) (kv : Value) (w : World) (e : Ending) (w' : World) : Prop :=
  ∃ n : Int, e = .returned (.int .i64 n) ∧ r.got n ∧ Sr L W0 g lv r.unit K kv w' ∧ KeepP (fun k => k = g) w w'
def TurnsE (L : List Tok) (W0 : World) (g : Nat) (lv : Value) (r : RS (List Nod)) (K : List Sv) (kv : Value) (w : World) (e : Ending) (w' : World) : Prop :=
  ∃ (v : Value) (l : List Nod), e = .returned v ∧ ReadE W0.heap.size w' v l ∧ r.got l ∧ Sr L W0 g lv r.unit K kv w' ∧ KeepP (fun k => k = g) w w'
theorem name_no {i : Nat} (h : namedB L i = false) (u : Unit) : ((RS.ok u i).bind (fun _ i => nameP L i)).unit = (RS.ok u i).bind (fun _ i => (badR L i 5 : RS Unit)) := by
  simp only [RS.bind_ok]
  rw [nameP_no h]
  simp [badR]
theorem got_bad {α : Type} {r : RS α} {e p : Int} (h : r.unit = .bad e p) (a : α) : r.got a := by
  cases r with
  | ok b j => cases h
  | bad e' p' => trivial
theorem badR_is (L : List Tok) (i : Nat) (er : Int) : ∃ e p, (badR L i er : RS Unit) = .bad e p := ⟨_, _, rfl⟩
theorem toks_stay3 {w1 w2 : World} {a x y z : Value} {i b : Nat} (hg : g < w.heap.size) (hb0 : b < w.heap.size) (k : w1.cell? ⟨g, 0, none⟩ = some a ∧ w1.cell? ⟨g, 1, none⟩ = some (.int .i64 i) ∧ w1.cell? ⟨g, 2, none⟩ = some z ∧ w1.cell? ⟨b, i * 4, none⟩ = some x ∧ w1.cell? ⟨b, i * 4 + 1, none⟩ = some y ∧ Below w.heap.size w w1) (hb : Below w1.heap.size w1 w2) : w2.cell? ⟨g, 0, none⟩ = some a ∧ w2.cell? ⟨g, 1, none⟩ = some (.int .i64 i) ∧ w2.cell? ⟨g, 2, none⟩ = some z ∧ w2.cell? ⟨b, i * 4, none⟩ = some x ∧ w2.cell? ⟨b, i * 4 + 1, none⟩ = some y ∧ Below w.heap.size w w2 := by
  obtain ⟨k0, k1, k4, k2, k3, kb⟩ := k
  have q : ∀ e j, e < w.heap.size → w2.cell? ⟨e, j, none⟩ = w1.cell? ⟨e, j, none⟩ := fun e j he => hb.cell (p := ⟨e, j, none⟩) (Nat.lt_of_lt_of_le he kb.size)
  exact ⟨by rw [q g _ hg, k0], by rw [q g _ hg, k1], by rw [q g _ hg, k4], by rw [q b _ hb0, k2], by rw [q b _ hb0, k3], below_then kb hb⟩
set_option maxRecDepth 100000 in
set_option maxHeartbeats 8000000 in
theorem dname (hs : Src L W0 lv) (h : Sr L W0 g lv t K kv w) : Calls Tryz.prog 100 #[.pointer (some ⟨g, 0, none⟩)] w (TurnsS L W0 g lv (t.bind fun _ i => nameP L i) K kv w) := by
  have HC := Lib.hid hs
  have HS := Lib.hid h
  have hgl := h.lt
  cases t with
  | bad e p =>
    obtain ⟨j, _, ⟨_, c0, c1, c2, c3, c4, f1, f2, f3, f4⟩, hne⟩ := h.badc
    have hz : (e == 0) = false := by simp [hne]
    clear h hs hne
    go_enter Tryz.func100, Tryz.ntmps100
    go_wp2_with fail
    go_quiet (fail)
    have HS1 := Lib.hid (HS.out.on (below_drew1 _ nq))
    have HK1 := Lib.hid (KeepP.of (P := fun k => k = g) (below_drew1 w nq))
    go_wp2_with fail
    refine (dbad HC.out HS1.out (er := 5) (by decide)).mono ?_
    rintro e1 w1 ⟨rfl, hs1, hk1⟩
    have HS2 := Lib.hid hs1
    have HK2 := Lib.hid (HK1.out.same hk1)
    clear hs1 hk1
    go_wp2_with fail
    go_ret
    exact ⟨[], rfl, trivial, HS2.out, HK2.out⟩
  | ok u i =>
    obtain ⟨pos, hb, ⟨_, c0, c1, c2, c3, c4, f1, f2, f3, f4⟩⟩ := h.okc
    have hlen := hs.len
    cases hn : namedB L i with
    | false =>
      have HR := Lib.hid (name_no hn u)
      have HG : Hid (((RS.ok u i).bind (fun _ i => nameP L i)).got ([] : List UInt8)) := Lib.hid (by
        obtain ⟨e, p, hb⟩ := badR_is L i 5
        exact got_bad ((name_no hn u).trans hb) _)
      clear hb
      by_cases hi : i < L.length
      · obtain ⟨x, ht⟩ : ∃ x, L[i]? = some x := ⟨L[i], List.getElem?_eq_getElem hi⟩
        obtain ⟨b, c, rfl, hc, hb0, t0, t1, _, _⟩ := h.tok hs ht
        have hsm := hs.small x (List.mem_of_getElem? ht)
        have hi0 : (0 : Int) ≤ (i : Int) := by omega
        have hi1 : (i : Int) < (L.length : Int) := by omega
        by_cases hk : x.kind = 1
        · have hnb : nameB x.text = false := by rw [← named_word ht hk, hn]
          have HN := Lib.hid hnb
          have hk1 : (x.kind == 1) = true := by simp [hk]
          clear h hs ht hn hnb
          go_enter Tryz.func100, Tryz.ntmps100
          go_wp2_with fail
          go_region_held3 (fun w' => w'.cell? ⟨g, 0, none⟩ = some (.slice (some ⟨b, 0, none⟩) L.length c) ∧ w'.cell? ⟨g, 1, none⟩ = some (.int .i64 i) ∧ w'.cell? ⟨g, 2, none⟩ = some (.int .i64 0) ∧ w'.cell? ⟨b, i * 4, none⟩ = some (.int .i64 x.kind) ∧ w'.cell? ⟨b, i * 4 + 1, none⟩ = some (.string ⟨x.text.toArray⟩) ∧ Below w.heap.size w w')
            (first | exact ⟨c0, c1, c2, t0, t1, Below.refl _ _⟩ | exact ⟨c0, c1, c2, t0, t1, below_dr _⟩ | exact toks_stay3 (w1 := w.drew) hgl hb0 ⟨c0, c1, c2, t0, t1, below_dr _⟩ hb2)
            (first | (go_at_call 57; refine (rname_any ⟨x.text.toArray⟩ _ (by show x.text.length ≤ _; omega)).mono ?_; rw [show nameB (ByteArray.mk x.text.toArray).data.toList = false from by simpa using HN.out]; rintro e w2 ⟨rfl, hb2⟩))
          have HB1 := Lib.hid (below_then (below_dr w) hb2)
          have HS1 := Lib.hid (HS.out.on HB1.out)
          have HK1 := Lib.hid (KeepP.of (P := fun k => k = g) HB1.out)
          clear hb2 c0 c1 c2 c3 c4 f1 f2 f3 f4 t0 t1
          go_wp2_with fail
          refine (dbad HC.out HS1.out (er := 5) (by decide)).mono ?_
          rintro e1 w1 ⟨rfl, hs1, hk1⟩
          have HS2 := Lib.hid hs1
          have HK2 := Lib.hid (HK1.out.same hk1)
          clear hs1 hk1
          go_wp2_with fail
          go_ret
          exact ⟨[], rfl, HG.out, by rw [HR.out]; exact HS2.out, HK2.out⟩
        · have hk1 : (x.kind == 1) = false := by simp [hk]
          clear h hs ht hn hk
          go_enter Tryz.func100, Tryz.ntmps100
          go_wp2_with fail
          go_quiet (fail)
          have HS1 := Lib.hid (HS.out.on (below_drew1 _ nq))
          have HK1 := Lib.hid (KeepP.of (P := fun k => k = g) (below_drew1 w nq))
          go_wp2_with fail
          refine (dbad HC.out HS1.out (er := 5) (by decide)).mono ?_
          rintro e1 w1 ⟨rfl, hs1, hk1⟩
          have HS2 := Lib.hid hs1
          have HK2 := Lib.hid (HK1.out.same hk1)
          clear hs1 hk1
          go_wp2_with fail
          go_ret
          exact ⟨[], rfl, HG.out, by rw [HR.out]; exact HS2.out, HK2.out⟩
      · have hd : decide (i < L.length) = false := by simp; omega
        obtain ⟨A, c, rfl, hc, _⟩ := hs.toks
        clear h hs hn
        go_enter Tryz.func100, Tryz.ntmps100
        go_wp2_with fail
        go_quiet (fail)
        have HS1 := Lib.hid (HS.out.on (below_drew1 _ nq))
        have HK1 := Lib.hid (KeepP.of (P := fun k => k = g) (below_drew1 w nq))
        go_wp2_with fail
        refine (dbad HC.out HS1.out (er := 5) (by decide)).mono ?_
        rintro e1 w1 ⟨rfl, hs1, hk1⟩
        have HS2 := Lib.hid hs1
        have HK2 := Lib.hid (HK1.out.same hk1)
        clear hs1 hk1
        go_wp2_with fail
        go_ret
        exact ⟨[], rfl, HG.out, by rw [HR.out]; exact HS2.out, HK2.out⟩
    | true =>
      obtain ⟨x, ht, hi, hp⟩ := nameP_yes hn
      obtain ⟨b, c, rfl, hc, hb0, t0, t1, _, _⟩ := h.tok hs ht
      have hsm := hs.small x (List.mem_of_getElem? ht)
      have HR : Hid ((RS.ok u i).bind (fun _ i => nameP L i) = .ok x.text (i + 1)) := Lib.hid hp
      have hk : x.kind = 1 := by
        rcases Decidable.em (x.kind = 1) with h1 | h1
        · exact h1
        · rw [named_kind ht h1] at hn; cases hn
      have hnb : nameB x.text = true := by rw [← named_word ht hk, hn]
      have HN := Lib.hid hnb
      have HT := Lib.hid ht
      have hk1 : (x.kind == 1) = true := by simp [hk]
      have hi0 : (0 : Int) ≤ (i : Int) := by omega
      have hi1 : (i : Int) < (L.length : Int) := by omega
      clear h hs ht hn hnb hb hp
      go_enter Tryz.func100, Tryz.ntmps100
      go_wp2_with fail
      go_region_held3 (fun w' => w'.cell? ⟨g, 0, none⟩ = some (.slice (some ⟨b, 0, none⟩) L.length c) ∧ w'.cell? ⟨g, 1, none⟩ = some (.int .i64 i) ∧ w'.cell? ⟨g, 2, none⟩ = some (.int .i64 0) ∧ w'.cell? ⟨b, i * 4, none⟩ = some (.int .i64 x.kind) ∧ w'.cell? ⟨b, i * 4 + 1, none⟩ = some (.string ⟨x.text.toArray⟩) ∧ Below w.heap.size w w')
        (first | exact ⟨c0, c1, c2, t0, t1, Below.refl _ _⟩ | exact ⟨c0, c1, c2, t0, t1, below_dr _⟩ | exact toks_stay3 (w1 := w.drew) hgl hb0 ⟨c0, c1, c2, t0, t1, below_dr _⟩ hb2)
        (first | (go_at_call 57; refine (rname_any ⟨x.text.toArray⟩ _ (by show x.text.length ≤ _; omega)).mono ?_; rw [show nameB (ByteArray.mk x.text.toArray).data.toList = true from by simpa using HN.out]; rintro e w2 ⟨rfl, hb2⟩))
      have HB1 := Lib.hid (below_then (below_dr w) hb2)
      have HS1 := Lib.hid (HS.out.on HB1.out)
      have HK1 := Lib.hid (KeepP.of (P := fun k => k = g) HB1.out)
      clear hb2 c0 c1 c2 c3 c4 f1 f2 f3 f4 t0 t1 hgl
      obtain ⟨pos1, _, ⟨hgl, c0, c1, c2, c3, c4, f1, f2, f3, f4⟩⟩ := HS1.out.okc
      have hw1 : IntKind.i64.wrap ((i : Int) + 1) = (i : Int) + 1 := IntWalk.i64_in _ (by omega)
      go_upto_region 3 with (fail)
      rw [show ((i : Int) + 1) = ((i + 1 : Nat) : Int) from by omega]
      have hs2 : Sr L W0 g (.slice (some ⟨b, 0, none⟩) L.length c) (.ok () (i + 1)) K kv (w2.setCell ⟨g, 1, none⟩ (.int .i64 ((i + 1 : Nat) : Int))) := HS1.out.set1
      have hk2 : KeepP (fun k => k = g) w (w2.setCell ⟨g, 1, none⟩ (.int .i64 ((i + 1 : Nat) : Int))) := HK1.out.same KeepP.set
      generalize w2.setCell ⟨g, 1, none⟩ (.int .i64 ((i + 1 : Nat) : Int)) = W2 at *
      have HS2 := Lib.hid hs2
      have HK2 := Lib.hid hk2
      clear c0 c1 c2 c3 c4 f1 f2 f3 f4 hgl hw1
      obtain ⟨pos2, _, ⟨hgl, c0, c1, c2, c3, c4, f1, f2, f3, f4⟩⟩ := hs2.okc
      obtain ⟨b', c', hv', hc', hb0', t0, t1, _, _⟩ := hs2.tok HC.out HT.out
      simp only [Value.slice.injEq, Option.some.injEq, Addr.mk.injEq] at hv'
      obtain ⟨⟨rfl, _⟩, _, rfl⟩ := hv'
      have hw2 : IntKind.i64.wrap (((i + 1 : Nat) : Int) - 1) = (i : Int) := by rw [IntWalk.i64_in _ (by omega)]; omega
      clear hs2 hk2
      go_wp2_with fail
      go_quiet (fail)
      go_wp2_with fail
      go_ret
      exact ⟨x.text, rfl, by rw [HR.out]; rfl, by rw [HR.out]; exact HS2.out.on (below_drew1 _ _), HK2.out.same (KeepP.of (below_drew1 _ _))⟩
set_option maxRecDepth 100000 in
set_option maxHeartbeats 8000000 in
theorem dexpr (hs : Src L W0 lv) (h : Sr L W0 g lv t K kv w) : Calls Tryz.prog 101 #[.pointer (some ⟨g, 0, none⟩)] w (TurnsE L W0 g lv (t.bind fun _ i => exprP L i) K kv w) := by
  have HC := Lib.hid hs
  have HS := Lib.hid h
  have hgl := h.lt
  cases t with
  | bad e p =>
    obtain ⟨j, _, ⟨_, c0, c1, c2, c3, c4, f1, f2, f3, f4⟩, hne⟩ := h.badc
    have hz : (e != 0) = true := by simp [hne]
    clear h hs hne
    go_enter Tryz.func101, Tryz.ntmps101
    go_wp2_with fail
    go_ret
    exact ⟨_, [], rfl, readE_nil _ _, trivial, HS.out, KeepP.refl _ _⟩
  | ok u i =>
    obtain ⟨pos, hb, ⟨_, c0, c1, c2, c3, c4, f1, f2, f3, f4⟩⟩ := h.okc
    have hlen := hs.len
    by_cases he : (exprV L i).err = 0
    · rcases expr_cases L i with ⟨hx, _⟩ | ⟨x, _, _, _, _, q, hx, hx1, hx2⟩
      · exact absurd he hx
      have HR : Hid ((RS.ok u i).bind (fun _ i => exprP L i) = .ok x.flat q) := Lib.hid (by simp only [RS.bind_ok]; unfold exprP; rw [if_pos he, hx]; simp)
      have HX := Lib.hid hx
      clear hx he h hs hb
      go_enter Tryz.func101, Tryz.ntmps101
      go_wp2_with fail
      go_region_held3 (fun w' => w'.cell? ⟨g, 0, none⟩ = some lv ∧ w'.cell? ⟨g, 1, none⟩ = some (.int .i64 i) ∧ Below w.heap.size w w')
        (first | exact ⟨c0, c1, Below.refl _ _⟩ | exact ⟨c0, c1, below_dr _⟩ | exact kept2 (w1 := w.drew) hgl ⟨c0, c1, below_dr _⟩ hb1)
        (first | (go_at_call 124; refine (rparse_any lv L i _ ((HS.out.on (below_dr _)).toks HC.out) HC.out.len HC.out.small).mono ?_; rw [HX.out]; rintro e w1 ⟨v, rfl, ho, hb1⟩))
      obtain ⟨A5, n5, c5, rfl⟩ := own_slice ho
      have HO := Lib.hid ho
      have HBE := Lib.hid (below_then (below_dr w) hb1)
      have HS1 := Lib.hid (HS.out.on HBE.out)
      clear ho hb1 c0 c1 c2 c3 c4 f1 f2 f3 f4 hgl
      obtain ⟨pos1, _, ⟨hgl, c0, c1, c2, c3, c4, f1, f2, f3, f4⟩⟩ := HS1.out.okc
      go_wp2_with fail
      go_ret
      have hE : ReadE W0.heap.size w1 (.slice A5 n5 c5) x.flat := HO.out.readE HS.out.low.size
      have hK : KeepP (fun k => k = g) w1 (w1.setCell ⟨g, 1, none⟩ (.int .i64 q)) := KeepP.set
      have hn : ∀ q cs fr, w1.heap[q]? = some (.cells cs 33 fr) → ¬ (q = g) := fun q cs fr hh e => HS1.out.mine_nodes q cs fr hh (.inl e)
      exact ⟨_, x.flat, rfl, hE.keep hK hn, by rw [HR.out]; rfl, by rw [HR.out]; exact HS1.out.set1 (j := q), (KeepP.of (P := fun k => k = g) HBE.out).same hK⟩
    · have HR : Hid ((RS.ok u i).bind (fun _ i => exprP L i) = .bad (exprV L i).err (exprV L i).pl) := Lib.hid (exprP_bad he)
      have HE := Lib.hid he
      clear h hs hb
      go_enter Tryz.func101, Tryz.ntmps101
      go_wp2_with fail
      go_region_held3 (fun w' => w'.cell? ⟨g, 0, none⟩ = some lv ∧ w'.cell? ⟨g, 1, none⟩ = some (.int .i64 i) ∧ Below w.heap.size w w')
        (first | exact ⟨c0, c1, Below.refl _ _⟩ | exact ⟨c0, c1, below_dr _⟩ | exact kept2 (w1 := w.drew) hgl ⟨c0, c1, below_dr _⟩ hb1)
        (first | (go_at_call 124; refine (rparse_any lv L i _ ((HS.out.on (below_dr _)).toks HC.out) HC.out.len HC.out.small).mono ?_; rintro e w1 ⟨v, rfl, ho, hb1⟩))
      have HBE := Lib.hid (below_then (below_dr w) hb1)
      have HS1 := Lib.hid (HS.out.on HBE.out)
      clear ho hb1 c0 c1 c2 c3 c4 f1 f2 f3 f4 hgl
      obtain ⟨pos1, _, ⟨hgl, c0, c1, c2, c3, c4, f1, f2, f3, f4⟩⟩ := HS1.out.okc
      generalize (exprV L i).err = er at *
      generalize (exprV L i).pl = p6 at *
      generalize (exprV L i).to = t6 at *
      have hne : (er != 0) = true := by simp [he]
      clear he
      go_wp2_with fail
      go_ret
      exact ⟨_, [], rfl, readE_nil _ _, by rw [HR.out]; trivial, by rw [HR.out]; exact HS1.out.err HE.out, (KeepP.of (P := fun k => k = g) HBE.out).same (KeepP.set.same KeepP.set)⟩
end
end Go.Proofs.YtpeohfgadnfnpaaGreatDoor
/-
  DERIVED. Layer 4: the contract of the document's reader's times (leadlineref04).
-/
namespace Go.Proofs.YtpeohfgadnfnpaaGreatDoor
open Go.RowKit

section
variable {L : List Tok} {W0 : World} {g : Nat} {lv : Value} {t : RS Unit} {K : List Sv} {kv : Value} {w : World}
theorem times_no {i : Nat} {er : Int} (h : timesP L i = badR L i er) (u : Unit) : ((RS.ok u i).bind (fun _ i => timesP L i)).unit = (RS.ok u i).bind (fun _ i => (badR L i er : RS Unit)) := by
  simp only [RS.bind_ok]
  rw [h]
  rfl
set_option maxRecDepth 100000 in
set_option maxHeartbeats 8000000 in
theorem dtimes (hs : Src L W0 lv) (h : Sr L W0 g lv t K kv w) : Calls Tryz.prog 102 #[.pointer (some ⟨g, 0, none⟩)] w (TurnsI L W0 g lv (t.bind fun _ i => timesP L i) K kv w) := by
  have HC := Lib.hid hs
  have HS := Lib.hid h
  have hgl := h.lt
  cases t with
  | bad e p =>
    obtain ⟨j, _, ⟨_, c0, c1, c2, c3, c4, f1, f2, f3, f4⟩, hne⟩ := h.badc
    have hz : (e == 0) = false := by simp [hne]
    clear h hs hne
    go_enter Tryz.func102, Tryz.ntmps102
    go_wp2_with fail
    go_quiet (fail)
    have HS1 := Lib.hid (HS.out.on (below_drew1 _ nq))
    have HK1 := Lib.hid (KeepP.of (P := fun k => k = g) (below_drew1 w nq))
    go_wp2_with fail
    refine (dbad HC.out HS1.out (er := 5) (by decide)).mono ?_
    rintro e1 w1 ⟨rfl, hs1, hk1⟩
    have HS2 := Lib.hid hs1
    have HK2 := Lib.hid (HK1.out.same hk1)
    clear hs1 hk1
    go_wp2_with fail
    go_ret
    exact ⟨0, rfl, trivial, HS2.out, HK2.out⟩
  | ok u i =>
    obtain ⟨pos, hb, ⟨_, c0, c1, c2, c3, c4, f1, f2, f3, f4⟩⟩ := h.okc
    have hlen := hs.len
    clear hb
    by_cases hi : i < L.length
    · obtain ⟨x, ht⟩ : ∃ x, L[i]? = some x := ⟨L[i], List.getElem?_eq_getElem hi⟩
      obtain ⟨b, c, rfl, hc, hb0, t0, t1, t2, _⟩ := h.tok hs ht
      have hi0 : (0 : Int) ≤ (i : Int) := by omega
      have hi1 : (i : Int) < (L.length : Int) := by omega
      by_cases hk : x.kind = 2
      · have hk1 : (x.kind == 2) = true := by simp [hk]
        by_cases hn : 1 ≤ x.n ∧ x.n ≤ 8
        · have HR : Hid ((RS.ok u i).bind (fun _ i => timesP L i) = .ok x.n (i + 1)) := Lib.hid (times_yes ht hk hn)
          obtain ⟨hn1, hn2⟩ := hn
          have hd1 : decide (1 ≤ x.n) = true := by simp; omega
          have hd2 : decide (x.n ≤ 8) = true := by simp; omega
          have hw1 : IntKind.i64.wrap ((i : Int) + 1) = (i : Int) + 1 := IntWalk.i64_in _ (by omega)
          clear h hs ht hk
          go_enter Tryz.func102, Tryz.ntmps102
          go_wp2_with fail
          go_quiet (fail)
          go_wp2_with fail
          go_quiet (fail)
          have hb2 := below_drew1 w nq
          go_wp2_with fail
          go_ret
          first
            | exact ⟨x.n, rfl, by rw [HR.out]; rfl, by rw [HR.out]; exact ((HS.out.on (below_drew1 _ _)).on (below_drew1 _ _)).set1 (j := i + 1), ((KeepP.of (P := fun k => k = g) (below_drew1 w _)).same (KeepP.of (below_drew1 _ _))).same KeepP.set⟩
            | exact ⟨x.n, rfl, by rw [HR.out]; rfl, by rw [HR.out]; exact (HS.out.on (below_drew1 _ _)).set1 (j := i + 1), (KeepP.of (P := fun k => k = g) (below_drew1 w _)).same KeepP.set⟩
        · have HR := Lib.hid (times_no (er := 11) (show timesP L i = badR L i 11 by rw [times_far ht hi hk hn]; simp [badR, hi]) u)
          have HG : Hid (((RS.ok u i).bind (fun _ i => timesP L i)).got 0) := Lib.hid (by
            obtain ⟨e, p, hb⟩ := badR_is L i 11
            exact got_bad (HR.out.trans hb) _)
          clear h hs ht hk
          rcases (show x.n < 1 ∨ (1 ≤ x.n ∧ 8 < x.n) by omega) with h1 | ⟨h1, h8⟩
          · have hd1 : decide (1 ≤ x.n) = false := by simp; omega
            clear hn
            go_enter Tryz.func102, Tryz.ntmps102
            go_wp2_with fail
            go_quiet (fail)
            revert nq
            intro n1
            go_wp2_with fail
            go_quiet (fail)
            go_wp2_with fail
            have HS1 := Lib.hid (HS.out.on (below_drew1 _ (n1 + nq)))
            have HK1 := Lib.hid (KeepP.of (P := fun k => k = g) (below_drew1 w (n1 + nq)))
            refine (dbad HC.out HS1.out (er := 11) (by decide)).mono ?_
            rintro e1 w1 ⟨rfl, hs1, hk1⟩
            have HS2 := Lib.hid hs1
            have HK2 := Lib.hid (HK1.out.same hk1)
            clear hs1 hk1
            go_wp2_with fail
            go_ret
            exact ⟨0, rfl, HG.out, by rw [HR.out]; exact HS2.out, HK2.out⟩
          · have hd1 : decide (1 ≤ x.n) = true := by simp; omega
            have hd2 : decide (x.n ≤ 8) = false := by simp; omega
            clear hn
            go_enter Tryz.func102, Tryz.ntmps102
            go_wp2_with fail
            go_quiet (fail)
            revert nq
            intro n1
            go_wp2_with fail
            go_quiet (fail)
            go_wp2_with fail
            have HS1 := Lib.hid (HS.out.on (below_drew1 _ (n1 + nq)))
            have HK1 := Lib.hid (KeepP.of (P := fun k => k = g) (below_drew1 w (n1 + nq)))
            refine (dbad HC.out HS1.out (er := 11) (by decide)).mono ?_
            rintro e1 w1 ⟨rfl, hs1, hk1⟩
            have HS2 := Lib.hid hs1
            have HK2 := Lib.hid (HK1.out.same hk1)
            clear hs1 hk1
            go_wp2_with fail
            go_ret
            exact ⟨0, rfl, HG.out, by rw [HR.out]; exact HS2.out, HK2.out⟩
      · have HR := Lib.hid (times_no (er := 5) (show timesP L i = badR L i 5 by rw [times_kind ht hi hk]; simp [badR, hi]) u)
        have HG : Hid (((RS.ok u i).bind (fun _ i => timesP L i)).got 0) := Lib.hid (by
          obtain ⟨e, p, hb⟩ := badR_is L i 5
          exact got_bad (HR.out.trans hb) _)
        have hk1 : (x.kind == 2) = false := by simp [hk]
        clear h hs ht hk
        go_enter Tryz.func102, Tryz.ntmps102
        go_wp2_with fail
        go_quiet (fail)
        have HS1 := Lib.hid (HS.out.on (below_drew1 _ nq))
        have HK1 := Lib.hid (KeepP.of (P := fun k => k = g) (below_drew1 w nq))
        go_wp2_with fail
        refine (dbad HC.out HS1.out (er := 5) (by decide)).mono ?_
        rintro e1 w1 ⟨rfl, hs1, hk1⟩
        have HS2 := Lib.hid hs1
        have HK2 := Lib.hid (HK1.out.same hk1)
        clear hs1 hk1
        go_wp2_with fail
        go_ret
        exact ⟨0, rfl, HG.out, by rw [HR.out]; exact HS2.out, HK2.out⟩
    · have HR := Lib.hid (times_no (er := 5) (show timesP L i = badR L i 5 by rw [times_end hi]; simp [badR, hi]) u)
      have HG : Hid (((RS.ok u i).bind (fun _ i => timesP L i)).got 0) := Lib.hid (by
        obtain ⟨e, p, hb⟩ := badR_is L i 5
        exact got_bad (HR.out.trans hb) _)
      have hd : decide (i < L.length) = false := by simp; omega
      obtain ⟨A, c, rfl, hc, _⟩ := hs.toks
      clear h hs
      go_enter Tryz.func102, Tryz.ntmps102
      go_wp2_with fail
      go_quiet (fail)
      have HS1 := Lib.hid (HS.out.on (below_drew1 _ nq))
      have HK1 := Lib.hid (KeepP.of (P := fun k => k = g) (below_drew1 w nq))
      go_wp2_with fail
      refine (dbad HC.out HS1.out (er := 5) (by decide)).mono ?_
      rintro e1 w1 ⟨rfl, hs1, hk1⟩
      have HS2 := Lib.hid hs1
      have HK2 := Lib.hid (HK1.out.same hk1)
      clear hs1 hk1
      go_wp2_with fail
      go_ret
      exact ⟨0, rfl, HG.out, by rw [HR.out]; exact HS2.out, HK2.out⟩
end
end Go.Proofs.YtpeohfgadnfnpaaGreatDoor
