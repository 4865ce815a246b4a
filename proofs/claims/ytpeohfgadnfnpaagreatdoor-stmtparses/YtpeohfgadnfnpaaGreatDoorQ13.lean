/-
  DERIVED. Layer 3: what the reader's calls come back with; the contract of its leaf.
-/
import Derived.Test.YtpeohfgadnfnpaaGreatDoorQ11
import Derived.Test.YtpeohfgadnfnpaaGreatDoorQ12
import Derived.StillTailTactics
namespace Go.Proofs.YtpeohfgadnfnpaaGreatDoor
open Go.RowKit

def errOf : Res → Int
  | .ok _ _ => 0
  | .bad e _ => e
def posOf : Res → Nat
  | .ok _ to => to
  | .bad _ j => j
/-- The part that stands for what was read; beside an error any that is small. -/
def PrtFor (i : Nat) : Res → Prt → Prop
  | .ok x _, P => P = prtOf x
  | .bad _ j, P => P.ns.length ≤ 40 ∧ P.ns.length ≤ P.many ∧ P.many ≤ j - i + 1 ∧ P.deep ≤ j - i + 1
def GivesP (L : List Tok) (g : Nat) (v : Value) (d i : Nat) (r : Res) (w : World) (e : Ending) (w' : World) : Prop :=
  ∃ (P : Prt) (A : Option Addr) (n c : Nat), PrtFor i r P ∧ e = .returned (.tuple #[.agg #[.slice A n c, .int .i64 P.many, .int .i64 P.deep], .int .i64 (errOf r)]) ∧ OwnN w' w.heap.size (.slice A n c) P.ns ∧ Sits L w' g v (posOf r) d ∧ Keeps g w w'
theorem prt_none (i : Nat) (e : Int) (j : Nat) : PrtFor i (.bad e j) ⟨[], 0, 0⟩ := ⟨by simp, by simp, Nat.zero_le _, Nat.zero_le _⟩
theorem own_slice {w : World} {B : Nat} {v : Value} {L : List Nod} (h : OwnN w B v L) : ∃ A n c, v = .slice A n c := by
  rcases h.2 with ⟨rfl, _⟩ | ⟨g', cap, cur, rfl, _⟩
  · exact ⟨_, _, _, rfl⟩
  · exact ⟨_, _, _, rfl⟩
theorem fits_ok {x : Ex} (h : x.size ≤ 10000) : FitsP (prtOf x) := by
  have hd := deep_size x
  refine ⟨?_, by show x.size ≤ _; omega, by show x.deep ≤ _; omega⟩
  show (if x.size ≤ 40 then x.flat else []).length ≤ 40
  split
  · rw [flat_len]; assumption
  · simp

theorem Sits.upto {L : List Tok} {w w' : World} {g B : Nat} {v : Value} {i d : Nat} (h : Sits L w g v i d) (hb : Below B w w') (hB : g < B) : Sits L w' g v i d := by
  obtain ⟨⟨hlt, c0, c1, c2, f1, f2⟩, ⟨A, c, hv, hc, hr⟩, ht, hfar⟩ := h
  have e : ∀ b o, b ≤ g → w'.cell? ⟨b, o, none⟩ = w.cell? ⟨b, o, none⟩ := fun b o hb' => World.cell?_of_block (hb.block b (by omega))
  have f : ∀ b o, b ≤ g → w'.frozen? ⟨b, o, none⟩ = w.frozen? ⟨b, o, none⟩ := fun b o hb' => World.frozen?_of_block (hb.block b (by omega))
  refine ⟨⟨Nat.lt_of_lt_of_le hlt hb.size, (e _ _ (Nat.le_refl _)).trans c0, (e _ _ (Nat.le_refl _)).trans c1, (e _ _ (Nat.le_refl _)).trans c2, (f _ _ (Nat.le_refl _)).trans f1, (f _ _ (Nat.le_refl _)).trans f2⟩, ⟨A, c, hv, hc, fun i t hi => ?_⟩, ht.same fun k hk => hb.block k (by omega), hfar⟩
  obtain ⟨b, hA, hbg, h0, h1, h2, h3⟩ := hr i t hi
  exact ⟨b, hA, hbg, (e _ _ (by omega)).trans h0, (e _ _ (by omega)).trans h1, (e _ _ (by omega)).trans h2, (e _ _ (by omega)).trans h3⟩
theorem Keeps.andBelow {g B : Nat} {w w1 w2 : World} (h : Keeps g w w1) (hb : Below B w1 w2) (hB : w.heap.size ≤ B) : Keeps g w w2 :=
  ⟨hb.os.trans h.os, hb.tape.trans h.tape, hb.output.trans h.output, Nat.le_trans h.size hb.size, fun k hk hg => (hb.block k (by omega)).trans (h.block k hk hg)⟩
theorem below_any (B : Nat) (w : World) : Below B w w.drew := ⟨rfl, rfl, rfl, Nat.le_refl _, fun _ _ => rfl⟩
theorem below_anyN (B : Nat) (w : World) (n : Nat) : Below B w (w.drewN n) := ⟨rfl, rfl, rfl, Nat.le_refl _, fun _ _ => rfl⟩
theorem OwnN.upto {w w' : World} {B C : Nat} {v : Value} {L : List Nod} (h : OwnN w B v L) (hb : Below C w w') (hC : ∀ b, v.ownBlock = some b → b < C) : OwnN w' B v L := by
  obtain ⟨h1, h2⟩ := h
  refine ⟨h1, ?_⟩
  rcases h2 with h2 | ⟨b, cap, cur, rfl, hg, hh, r⟩
  · exact .inl h2
  · exact .inr ⟨b, cap, cur, rfl, hg, (hb.block b (hC b rfl)).trans hh, r⟩
/-- A box of four cells that may be written. -/
structure Nd (w : World) (g : Nat) (x0 x1 x2 x3 : Value) : Prop where
  lt : g < w.heap.size
  c0 : w.cell? ⟨g, 0, none⟩ = some x0
  c1 : w.cell? ⟨g, 1, none⟩ = some x1
  c2 : w.cell? ⟨g, 2, none⟩ = some x2
  c3 : w.cell? ⟨g, 3, none⟩ = some x3
  f0 : w.frozen? ⟨g, 0, none⟩ = false
  f1 : w.frozen? ⟨g, 1, none⟩ = false
  f2 : w.frozen? ⟨g, 2, none⟩ = false
theorem nd_new (w : World) (x0 x1 x2 x3 : Value) (t : TypeId) : Nd (w.alloc (.cells #[x0, x1, x2, x3] t)) w.heap.size x0 x1 x2 x3 := ⟨by simp, by simp, by simp, by simp, by simp, by simp, by simp, by simp⟩
theorem Nd.on {w w' : World} {g : Nat} {x0 x1 x2 x3 : Value} (h : Nd w g x0 x1 x2 x3) (hb : Below w.heap.size w w') : Nd w' g x0 x1 x2 x3 :=
  ⟨Nat.lt_of_lt_of_le h.lt hb.size, (hb.cell (p := ⟨g, 0, none⟩) h.lt).trans h.c0, (hb.cell (p := ⟨g, 1, none⟩) h.lt).trans h.c1, (hb.cell (p := ⟨g, 2, none⟩) h.lt).trans h.c2, (hb.cell (p := ⟨g, 3, none⟩) h.lt).trans h.c3, (hb.frozen (p := ⟨g, 0, none⟩) h.lt).trans h.f0, (hb.frozen (p := ⟨g, 1, none⟩) h.lt).trans h.f1, (hb.frozen (p := ⟨g, 2, none⟩) h.lt).trans h.f2⟩
/-- A part that has been laid into the result's box. -/
theorem gives_end {L : List Tok} {g : Nat} {v : Value} {d i : Nat} {r : Res} {w w5 : World} {P : Prt} {A : Option Addr} {n c rb : Nat} {x y z : Value} {err : Int} (hP : PrtFor i r P) (hE : err = errOf r) (ho : OwnN w5 w.heap.size (.slice A n c) P.ns) (hob : ∀ b, (Value.slice A n c).ownBlock = some b → b ≠ rb) (hS : Sits L w5 g v (posOf r) d) (hK : Keeps g w w5) (hg : g < rb) (hr : w.heap.size ≤ rb) :
    GivesP L g v d i r w (.returned (.tuple #[.agg #[.slice A n c, .int .i64 P.many, .int .i64 P.deep], .int .i64 err])) (((w5.setCell ⟨rb, 0, none⟩ x).setCell ⟨rb, 1, none⟩ y).setCell ⟨rb, 2, none⟩ z) := by
  subst hE
  have hb : Below rb w5 (((w5.setCell ⟨rb, 0, none⟩ x).setCell ⟨rb, 1, none⟩ y).setCell ⟨rb, 2, none⟩ z) := (((Below.refl rb w5).setCell (p := ⟨rb, 0, none⟩) (Nat.le_refl _) x).setCell (p := ⟨rb, 1, none⟩) (Nat.le_refl _) y).setCell (p := ⟨rb, 2, none⟩) (Nat.le_refl _) z
  exact ⟨P, A, n, c, hP, rfl, ho.away hob (((Keeps.refl _ _).set).set).set, hS.upto hb hg, hK.andBelow hb hr⟩
theorem GivesP.on {L : List Tok} {g : Nat} {v : Value} {d i : Nat} {r : Res} {w w' w'' : World} {e : Ending} (h : GivesP L g v d i r w e w') (hb : Below w'.heap.size w' w'') : GivesP L g v d i r w e w'' := by
  obtain ⟨P, A, n, c, h1, h2, h3, h4, h5⟩ := h
  exact ⟨P, A, n, c, h1, h2, h3.on hb, h4.on hb, h5.andBelow hb h5.size⟩
/-- What a leaf's join is called with. -/
theorem leaf_world {L : List Tok} {g : Nat} {v : Value} {d i rb b : Nat} {w W : World} {x y : Value} {j k : Nat} (hS : Sits L W g v i d) (hP : Pd W rb (.slice none 0 0) (.int .i64 0) (.int .i64 0)) (hB : Below w.heap.size w W) (hgb : g < b) (hrb : rb < b) (hgr : g < rb) (hwb : w.heap.size ≤ b) :
    ∃ Y, Y = (((W.setCell ⟨b, j, none⟩ x).setCell ⟨b, k, none⟩ y).setCell ⟨g, 1, none⟩ (.int .i64 ((i : Int) + 1))).drew ∧ Sits L Y g v (i + 1) d ∧ Pd Y rb (.slice none 0 0) (.int .i64 0) (.int .i64 0) ∧ Keeps g w Y := by
  refine ⟨_, rfl, ?_, ?_, ?_⟩
  · have h1 : Below b W ((W.setCell ⟨b, j, none⟩ x).setCell ⟨b, k, none⟩ y) := ((Below.refl b W).setCell (p := ⟨b, j, none⟩) (Nat.le_refl _) x).setCell (p := ⟨b, k, none⟩) (Nat.le_refl _) y
    exact ((hS.upto h1 hgb).set1 (i + 1)).on (below_any _ _)
  · exact (((hP.away (by omega)).away (by omega)).away (by omega)).on (below_any _ _)
  · exact (Keeps.of ((hB.setCell hwb _).setCell hwb _)).set.andBelow (below_any _ _) (Nat.le_refl _)
theorem readP_nil (w : World) : ReadP w (.slice none 0 0) [] := ⟨none, 0, rfl, Nat.le_refl _, fun i p h => by simp at h⟩
/-- The world behind the token and its node have been laid. -/
theorem laid_two (w1 : World) (t : Tok) : ∃ W, W = ((w1.alloc (.cells #[.int .i64 t.kind, .string ⟨t.text.toArray⟩, .int .i64 t.n, .int .i64 t.pl] 52)).alloc (.cells #[.int .i64 0, .int .i64 0, .string ⟨#[]⟩, .int .i64 t.pl] 33)).drew ∧
    Nd W w1.heap.size (.int .i64 t.kind) (.string ⟨t.text.toArray⟩) (.int .i64 t.n) (.int .i64 t.pl) ∧ Nd W (w1.heap.size + 1) (.int .i64 0) (.int .i64 0) (.string ⟨#[]⟩) (.int .i64 t.pl) ∧ Below w1.heap.size w1 W := by
  refine ⟨_, rfl, ?_, ?_, ?_⟩
  · exact ((nd_new w1 _ _ _ _ 52).on ((Below.refl _ _).alloc (Nat.le_refl _) _)).on (below_any _ _)
  · have := nd_new (w1.alloc (.cells #[.int .i64 t.kind, .string ⟨t.text.toArray⟩, .int .i64 t.n, .int .i64 t.pl] 52)) (.int .i64 0) (.int .i64 0) (.string ⟨#[]⟩) (.int .i64 t.pl) 33
    rw [show (w1.alloc (.cells #[.int .i64 t.kind, .string ⟨t.text.toArray⟩, .int .i64 t.n, .int .i64 t.pl] 52)).heap.size = w1.heap.size + 1 from by simp] at this
    exact this.on (below_any _ _)
  · exact (((Below.refl _ _).alloc (Nat.le_refl _) _).alloc (by simp) _).trans (below_any _ _)

set_option maxRecDepth 100000 in
set_option maxHeartbeats 4000000 in
theorem leaf_any (L : List Tok) (g : Nat) (v : Value) (i d : Nat) (w : World) (h : Sits L w g v i d) (hl : L.length ≤ 10000) (hs : SmallT L) : Calls Tryz.prog 158 #[.pointer (some ⟨g, 0, none⟩)] w (GivesP L g v d i (leafR L i) w) := by
  have HS := Lib.hid h
  have hgl := h.rd.lt
  by_cases hend : L.length ≤ i
  · have HD : Hid (decide (L.length ≤ i) = true) := Lib.hid (by simpa using hend)
    have HR : Hid (leafR L i = .bad 6 i) := Lib.hid (by unfold leafR; rw [List.getElem?_eq_none hend])
    have HI : Hid ((if L.length ≤ i then (6 : Int) else 5) = 6) := Lib.hid (if_pos hend)
    have HB0 := Lib.hid ((Below.refl w.heap.size w).alloc (Nat.le_refl _) (.cells #[.slice none 0 0, .int .i64 0, .int .i64 0] 166))
    clear h hend
    go_enter Tryz.func158, Tryz.ntmps158
    go_wp2_with fail
    refine (ended_any L g v i d _ (HS.out.on HB0.out)).mono ?_
    rw [HD.out]
    rintro e w1 ⟨rfl, hb⟩
    have HB1 := Lib.hid (below_then HB0.out hb)
    obtain ⟨hc, hf⟩ := boxes_stay hb
    have hz : w.heap.size < w1.heap.size := by have := hb.size; simp at this; omega
    clear hb
    go_wp2_with fail
    refine (wrong_says L g v i d _ (HS.out.on HB1.out)).mono ?_
    rw [HI.out]
    rintro e w2 ⟨rfl, hb⟩
    have HB2 := Lib.hid (below_then HB1.out hb)
    obtain ⟨hc2, hf2⟩ := boxes_stay hb
    have hz2 : w.heap.size < w2.heap.size := by have := hb.size; omega
    clear hb
    go_wp2_with fail
    refine bodyPost_ret (v := .tuple #[.agg #[.slice none 0 0, .int .i64 0, .int .i64 0], .int .i64 6]) (by simp [results, Tryz.results158, go_sem, *]) rfl ?_
    rw [HR.out]
    have HB3 := ((HB2.out.setCell (p := ⟨w.heap.size, 0, none⟩) (Nat.le_refl _) (.slice none 0 0)).setCell (p := ⟨w.heap.size, 1, none⟩) (Nat.le_refl _) (.int .i64 0)).setCell (p := ⟨w.heap.size, 2, none⟩) (Nat.le_refl _) (.int .i64 0)
    exact ⟨⟨[], 0, 0⟩, _, _, _, prt_none _ _ _, rfl, ownN_nil _ _, HS.out.on HB3, Keeps.of HB3⟩
  · have hlt : i < L.length := by omega
    have HD : Hid (decide (L.length ≤ i) = false) := Lib.hid (by simpa using hend)
    have hat : L[i]? = some L[i] := List.getElem?_eq_getElem hlt
    have hsm := hs _ (List.getElem_mem hlt)
    have HB0 := Lib.hid ((Below.refl w.heap.size w).alloc (Nat.le_refl _) (.cells #[.slice none 0 0, .int .i64 0, .int .i64 0] 166))
    generalize L[i] = t at *
    have HAT := Lib.hid hat
    clear h hend hs
    go_enter Tryz.func158, Tryz.ntmps158
    go_wp2_with fail
    refine (ended_any L g v i d _ (HS.out.on HB0.out)).mono ?_
    rw [HD.out]
    rintro e w1 ⟨rfl, hb⟩
    have HB1 := Lib.hid (below_then HB0.out hb)
    have HP := Lib.hid ((pd_new w (.slice none 0 0) (.int .i64 0) (.int .i64 0)).on hb)
    have hz : w.heap.size < w1.heap.size := by have := hb.size; simp at this; omega
    clear hb
    have HS1 := Lib.hid (HS.out.on HB1.out)
    obtain ⟨⟨hg1, c0, c1, c2, f1, f2⟩, ⟨A, c, hv, hc, hr⟩, _, _⟩ := HS1.out
    obtain ⟨b, rfl, hb, x0, x1, x2, x3⟩ := hr i t hat
    subst hv
    clear hr hat
    have hi0 : (0 : Int) ≤ (i : Int) := by omega
    have hi1 : (i : Int) < (L.length : Int) := by omega
    go_wp2_with fail
    have n0 := World.new_ne w1 _ c0
    have n1 := World.new_ne w1 _ c1
    have m0 := World.new_ne w1 _ x0
    have m1 := World.new_ne w1 _ x1
    have m2 := World.new_ne w1 _ x2
    have m3 := World.new_ne w1 _ x3
    go_region_held3 (fun w' => w'.cell? ⟨g, 0, none⟩ = some (.slice (some ⟨b, 0, none⟩) L.length c) ∧ w'.cell? ⟨g, 1, none⟩ = some (.int .i64 i) ∧ w'.cell? ⟨b, i * 4, none⟩ = some (.int .i64 t.kind) ∧ w'.cell? ⟨b, i * 4 + 1, none⟩ = some (.string ⟨t.text.toArray⟩) ∧ w'.cell? ⟨b, i * 4 + 2, none⟩ = some (.int .i64 t.n) ∧ w'.cell? ⟨b, i * 4 + 3, none⟩ = some (.int .i64 t.pl))
      (first | exact ⟨c0, c1, x0, x1, x2, x3⟩ | go_keep)
      (fail)
    have HG : Hid (g < w.heap.size) := Lib.hid hgl
    clear c0 c1 c2 f1 f2 x0 x1 x2 x3 n0 n1 m0 m1 m2 m3 hi0 hi1
    cases e1 : (t.kind == 2) with
    | true =>
      have HR : Hid (leafR L i = .ok (.leaf ⟨1, t.n, [], t.pl⟩) (i + 1)) := Lib.hid (by unfold leafR; rw [HAT.out]; simp at e1; simp [e1])
      go_wp2_with fail
      obtain ⟨W, hW, hT, hN, hBW⟩ := laid_two w1 t
      rw [← hW]
      clear hW
      have HSW := Lib.hid (HS1.out.on hBW)
      have HPW := Lib.hid (HP.out.on hBW)
      have HBW := Lib.hid (below_then HB1.out hBW)
      have HN := Lib.hid hN
      obtain ⟨t0, t1, t2, t3, t4, t5, t6, t7⟩ := hT
      obtain ⟨n0, n1, n2, n3, n4, n5, n6, n7⟩ := hN
      clear hBW
      have hne : ¬ w1.heap.size = w1.heap.size + 1 := by omega
      go_region
      obtain ⟨⟨hgW, c0, c1, c2, f1, f2⟩, _, _, _⟩ := HSW.out
      have hne2 : ¬ w1.heap.size + 1 = g := by omega
      have hne3 : ¬ g = w1.heap.size + 1 := by omega
      go_wp2_with fail
      obtain ⟨Y, hY, hSY, hPY, hKY⟩ := leaf_world (b := w1.heap.size + 1) (j := 0) (k := 1) (x := .int .i64 1) (y := .int .i64 t.n) HSW.out HPW.out HBW.out (by omega) (by omega) hgl (by omega)
      rw [← hY]
      have HSY := Lib.hid hSY
      have HPY := Lib.hid hPY
      have HKY := Lib.hid hKY
      clear hY hSY hPY hKY n0 n1 n2 n3 n4 n5 n6 n7 t0 t1 t2 t3 t4 t5 t6 t7 c0 c1 c2 f1 f2
      have hyl := HPY.out.lt
      refine (join_any ⟨1, t.n, [], t.pl⟩ _ [] Y (readP_nil Y) (by simp) (by simp)).mono ?_
      rw [join_leaf]
      rintro e w5 ⟨u, rfl, ho, hb5⟩
      obtain ⟨A5, n5, c5, rfl⟩ := own_slice ho
      have HO := Lib.hid ho
      have HB5 := Lib.hid hb5
      obtain ⟨p0, p1, p2, p3, p4, p5, p6⟩ := HPY.out.on hb5
      clear ho hb5
      go_wp2_with fail
      refine bodyPost_ret (v := .tuple #[.agg #[.slice A5 n5 c5, .int .i64 (prtOf (.leaf ⟨1, t.n, [], t.pl⟩)).many, .int .i64 (prtOf (.leaf ⟨1, t.n, [], t.pl⟩)).deep], .int .i64 0]) (by simp [results, Tryz.results158, go_sem, *]) rfl ?_
      rw [HR.out]
      exact gives_end (P := prtOf (.leaf ⟨1, t.n, [], t.pl⟩)) rfl rfl (HO.out.base (by omega)) (fun b hb => by have := (ownN_block HO.out b hb).1; omega) (HSY.out.on HB5.out) (HKY.out.andBelow HB5.out (by have := HKY.out.size; omega)) hgl (Nat.le_refl _)
    | false =>
      have HI : Hid ((if L.length ≤ i then (6 : Int) else 5) = 5) := Lib.hid (if_neg (by omega))
      cases e2 : (t.kind == 1) with
      | false =>
        have HR : Hid (leafR L i = .bad 5 i) := Lib.hid (by unfold leafR; rw [HAT.out]; simp at e1 e2; simp [e1, e2])
        go_wp2_with fail
        obtain ⟨W, hW, hT, hN, hBW⟩ := laid_two w1 t
        rw [← hW]
        have HSX := Lib.hid (HS1.out.on hBW)
        have HPX := Lib.hid (HP.out.on hBW)
        have HKX : Hid (Keeps g w W) := Lib.hid (Keeps.of (below_then HB1.out hBW))
        clear hW hT hN hBW
        generalize hv0 : Value.slice (some ⟨b, 0, none⟩) L.length c = v0 at *
        have HV0 := Lib.hid hv0
        clear hv0
        refine (wrong_says L g v0 i d _ HSX.out).mono ?_
        rw [HI.out]
        rintro e w2 ⟨rfl, hb2⟩
        have HB2 := Lib.hid hb2
        obtain ⟨p0, p1, p2, p3, p4, p5, p6⟩ := HPX.out.on hb2
        clear hb2
        go_wp2_with fail
        refine bodyPost_ret (v := .tuple #[.agg #[.slice none 0 0, .int .i64 0, .int .i64 0], .int .i64 5]) (by simp [results, Tryz.results158, go_sem, *]) rfl ?_
        rw [HR.out]
        exact gives_end (P := ⟨[], 0, 0⟩) (prt_none _ _ _) rfl (ownN_nil _ _) (fun b hb => by simp [Value.ownBlock] at hb) (HSX.out.on HB2.out) (HKX.out.andBelow HB2.out (by have := HKX.out.size; omega)) hgl (Nat.le_refl _)
      | true =>
        cases e3 : nameB t.text with
        | false =>
          have HR : Hid (leafR L i = .bad 5 i) := Lib.hid (by unfold leafR; rw [HAT.out]; simp at e1; simp [e1, e3])
          have H3 := Lib.hid e3
          clear e3
          go_wp2_with fail
          obtain ⟨W, hW, hT, hN, hBW⟩ := laid_two w1 t
          rw [← hW]
          have HSW := Lib.hid (HS1.out.on hBW)
          have HPW := Lib.hid (HP.out.on hBW)
          have HKW : Hid (Keeps g w W) := Lib.hid (Keeps.of (below_then HB1.out hBW))
          clear hW hT hN hBW
          refine (name_any ⟨t.text.toArray⟩ _ (by show t.text.toArray.size ≤ _; simpa using hsm.2)).mono ?_
          rw [show (ByteArray.mk t.text.toArray).data.toList = t.text from by simp, H3.out]
          rintro e X ⟨rfl, hbx⟩
          have HSX := Lib.hid (HSW.out.on hbx)
          have HPX := Lib.hid (HPW.out.on hbx)
          have HKX : Hid (Keeps g w X) := Lib.hid (HKW.out.andBelow hbx HKW.out.size)
          clear hbx
          generalize hv0 : Value.slice (some ⟨b, 0, none⟩) L.length c = v0 at *
          have HV0 := Lib.hid hv0
          clear hv0
          go_wp2_with fail
          refine (wrong_says L g v0 i d _ HSX.out).mono ?_
          rw [HI.out]
          rintro e w2 ⟨rfl, hb2⟩
          have HB2 := Lib.hid hb2
          obtain ⟨p0, p1, p2, p3, p4, p5, p6⟩ := HPX.out.on hb2
          clear hb2
          go_wp2_with fail
          refine bodyPost_ret (v := .tuple #[.agg #[.slice none 0 0, .int .i64 0, .int .i64 0], .int .i64 5]) (by simp [results, Tryz.results158, go_sem, *]) rfl ?_
          rw [HR.out]
          exact gives_end (P := ⟨[], 0, 0⟩) (prt_none _ _ _) rfl (ownN_nil _ _) (fun b hb => by simp [Value.ownBlock] at hb) (HSX.out.on HB2.out) (HKX.out.andBelow HB2.out (by have := HKX.out.size; omega)) hgl (Nat.le_refl _)
        | true =>
          have HR : Hid (leafR L i = .ok (.leaf ⟨2, 0, t.text, t.pl⟩) (i + 1)) := Lib.hid (by unfold leafR; rw [HAT.out]; simp at e1 e2; simp [e2, e3])
          have H3 := Lib.hid e3
          clear e3
          go_wp2_with fail
          obtain ⟨W0, hW, hT, hN, hBW⟩ := laid_two w1 t
          rw [← hW]
          have HS0 := Lib.hid (HS1.out.on hBW)
          have HP0 := Lib.hid (HP.out.on hBW)
          have HB0' := Lib.hid (below_then HB1.out hBW)
          have HT0 := Lib.hid hT
          have HN0 := Lib.hid hN
          clear hW hT hN hBW
          refine (name_any ⟨t.text.toArray⟩ _ (by show t.text.toArray.size ≤ _; simpa using hsm.2)).mono ?_
          rw [show (ByteArray.mk t.text.toArray).data.toList = t.text from by simp, H3.out]
          rintro e W ⟨rfl, hbx⟩
          have HSW := Lib.hid (HS0.out.on hbx)
          have HPW := Lib.hid (HP0.out.on hbx)
          have HBW := Lib.hid (below_then HB0'.out hbx)
          obtain ⟨t0, t1, t2, t3, t4, t5, t6, t7⟩ := HT0.out.on hbx
          obtain ⟨n0, n1, n2, n3, n4, n5, n6, n7⟩ := HN0.out.on hbx
          clear hbx
          have hne : ¬ w1.heap.size = w1.heap.size + 1 := by omega
          go_wp2_with fail
          go_region
          obtain ⟨⟨hgW, c0, c1, c2, f1, f2⟩, _, _, _⟩ := HSW.out
          have hne2 : ¬ w1.heap.size + 1 = g := by omega
          have hne3 : ¬ g = w1.heap.size + 1 := by omega
          go_wp2_with fail
          obtain ⟨Y, hY, hSY, hPY, hKY⟩ := leaf_world (b := w1.heap.size + 1) (j := 0) (k := 2) (x := .int .i64 2) (y := .string ⟨t.text.toArray⟩) HSW.out HPW.out HBW.out (by omega) (by omega) hgl (by omega)
          rw [← hY]
          have HSY := Lib.hid hSY
          have HPY := Lib.hid hPY
          have HKY := Lib.hid hKY
          clear hY hSY hPY hKY n0 n1 n2 n3 n4 n5 n6 n7 t0 t1 t2 t3 t4 t5 t6 t7 c0 c1 c2 f1 f2
          have hyl := HPY.out.lt
          refine (join_any ⟨2, 0, t.text, t.pl⟩ _ [] Y (readP_nil Y) (by simp) (by simp)).mono ?_
          rw [join_leaf]
          rintro e w5 ⟨u, rfl, ho, hb5⟩
          obtain ⟨A5, n5, c5, rfl⟩ := own_slice ho
          have HO := Lib.hid ho
          have HB5 := Lib.hid hb5
          obtain ⟨p0, p1, p2, p3, p4, p5, p6⟩ := HPY.out.on hb5
          clear ho hb5
          go_wp2_with fail
          refine bodyPost_ret (v := .tuple #[.agg #[.slice A5 n5 c5, .int .i64 (prtOf (.leaf ⟨2, 0, t.text, t.pl⟩)).many, .int .i64 (prtOf (.leaf ⟨2, 0, t.text, t.pl⟩)).deep], .int .i64 0]) (by simp [results, Tryz.results158, go_sem, *]) rfl ?_
          rw [HR.out]
          exact gives_end (P := prtOf (.leaf ⟨2, 0, t.text, t.pl⟩)) rfl rfl (HO.out.base (by omega)) (fun b hb => by have := (ownN_block HO.out b hb).1; omega) (HSY.out.on HB5.out) (HKY.out.andBelow HB5.out (by have := HKY.out.size; omega)) hgl (Nat.le_refl _)
end Go.Proofs.YtpeohfgadnfnpaaGreatDoor
