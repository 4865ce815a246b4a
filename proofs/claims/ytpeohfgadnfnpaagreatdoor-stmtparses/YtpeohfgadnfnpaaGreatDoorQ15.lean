/-
  DERIVED. Layer 3: the contract of the reader's single.
-/
import Derived.Test.YtpeohfgadnfnpaaGreatDoorQ14
namespace Go.Proofs.YtpeohfgadnfnpaaGreatDoor
open Go.RowKit

theorem mkf (fn : Fn) (first cap : Array Value) (w : World) : (Instr.makeFunc fn first cap).run Tryz.prog w = .ok (.func fn first cap) w := rfl
theorem prt_from {i i' : Nat} {r : Res} {P : Prt} (h : PrtFor i' r P) (hi : i ≤ i') : PrtFor i r P := by
  cases r with
  | ok x to => exact h
  | bad e j =>
    obtain ⟨h1, h2, h3, h4⟩ := h
    exact ⟨h1, h2, by omega, by omega⟩

/-- The same, with whatever is known of the part. -/
def GivesQ (L : List Tok) (g : Nat) (v : Value) (d : Nat) (Q : Prt → Prop) (err : Int) (pos : Nat) (w : World) (e : Ending) (w' : World) : Prop :=
  ∃ (P : Prt) (A : Option Addr) (n c : Nat), Q P ∧ e = .returned (.tuple #[.agg #[.slice A n c, .int .i64 P.many, .int .i64 P.deep], .int .i64 err]) ∧ OwnN w' w.heap.size (.slice A n c) P.ns ∧ Sits L w' g v pos d ∧ Keeps g w w'

set_option maxRecDepth 100000 in
set_option maxHeartbeats 2000000 in
theorem inside_deep (L : List Tok) (g : Nat) (v fv : Value) (i : Nat) (w : World) (h : Sits L w g v i 12) : Calls Tryz.prog 155 #[.pointer (some ⟨g, 0, none⟩), fv] w (GivesQ L g v 12 (fun P => P = ⟨[], 0, 0⟩) 7 i w) := by
  have HS := Lib.hid h
  obtain ⟨⟨hgl, c0, c1, c2, f1, f2⟩, _, _, _⟩ := h
  go_enter Tryz.func155, Tryz.ntmps155
  go_wp2_with fail
  refine bodyPost_ret (v := .tuple #[.agg #[.slice none 0 0, .int .i64 0, .int .i64 0], .int .i64 7]) (by simp [results, Tryz.results155, go_sem, *]) rfl ?_
  have hb := (Below.refl w.heap.size w).alloc (Nat.le_refl _) (.cells #[.slice none 0 0, .int .i64 0, .int .i64 0] 166)
  exact ⟨⟨[], 0, 0⟩, _, _, _, rfl, rfl, ownN_nil _ _, HS.out.on hb, Keeps.of hb⟩

/-- The world behind the first boxes of single. -/
theorem single_world {L : List Tok} {g : Nat} {v : Value} {i d : Nat} {w : World} (h : Sits L w g v i d) :
    ∃ W, W = (w.alloc (.cells #[.pointer (some ⟨g, 0, none⟩)] 162)).alloc (.cells #[.slice none 0 0, .int .i64 0, .int .i64 0] 166) ∧ Sits L W g v i d ∧ W.cell? ⟨w.heap.size, 0, none⟩ = some (.pointer (some ⟨g, 0, none⟩)) ∧ Pd W (w.heap.size + 1) (.slice none 0 0) (.int .i64 0) (.int .i64 0) ∧ Below w.heap.size w W ∧ w.heap.size + 1 < W.heap.size := by
  have b1 := (Below.refl w.heap.size w).alloc (Nat.le_refl _) (.cells #[.pointer (some ⟨g, 0, none⟩)] 162)
  have c1 : (w.alloc (.cells #[.pointer (some ⟨g, 0, none⟩)] 162)).cell? ⟨w.heap.size, 0, none⟩ = some (.pointer (some ⟨g, 0, none⟩)) := by simp
  have s1 : (w.alloc (.cells #[.pointer (some ⟨g, 0, none⟩)] 162)).heap.size = w.heap.size + 1 := by simp
  generalize w.alloc (.cells #[.pointer (some ⟨g, 0, none⟩)] 162) = w1 at *
  have b2 := (Below.refl w1.heap.size w1).alloc (Nat.le_refl _) (.cells #[.slice none 0 0, .int .i64 0, .int .i64 0] 166)
  refine ⟨_, rfl, (h.on b1).on b2, (b2.cell (p := ⟨w.heap.size, 0, none⟩) (by show w.heap.size < _; omega)).trans c1, ?_, below_then b1 b2, by simp; omega⟩
  have := pd_new w1 (.slice none 0 0) (.int .i64 0) (.int .i64 0)
  rwa [s1] at this
theorem keptQ {W w1 w2 : World} {a q : Nat} {x y z : Value} (ha : a < W.heap.size) (hq : q < W.heap.size) (h : w1.cell? ⟨q, 0, none⟩ = some z ∧ w1.cell? ⟨a, 0, none⟩ = some x ∧ w1.cell? ⟨a, 1, none⟩ = some y ∧ Below W.heap.size W w1) (hb : Below w1.heap.size w1 w2) :
    w2.cell? ⟨q, 0, none⟩ = some z ∧ w2.cell? ⟨a, 0, none⟩ = some x ∧ w2.cell? ⟨a, 1, none⟩ = some y ∧ Below W.heap.size W w2 := by
  have hz := h.2.2.2.size
  exact ⟨(hb.cell (p := ⟨q, 0, none⟩) (by show q < _; omega)).trans h.1, (hb.cell (p := ⟨a, 0, none⟩) (by show a < _; omega)).trans h.2.1, (hb.cell (p := ⟨a, 1, none⟩) (by show a < _; omega)).trans h.2.2.1, below_then h.2.2.2 hb⟩

set_option maxRecDepth 100000 in
set_option maxHeartbeats 4000000 in
theorem single_paren (L : List Tok) (g : Nat) (v : Value) (i d : Nat) (w : World) (h : Sits L w g v i d) (ho : isB L i [40] = true) (r : Res)
    (hin : ∀ (q : Nat) (W : World), Sits L W g v i d → q < W.heap.size → q ≠ g → W.cell? ⟨q, 0, none⟩ = some (.pointer (some ⟨g, 0, none⟩)) → Calls Tryz.prog 155 #[.pointer (some ⟨g, 0, none⟩), .func (.func 156) #[] #[.pointer (some ⟨q, 0, none⟩)]] W (GivesP L g v d i r W)) :
    Calls Tryz.prog 147 #[.pointer (some ⟨g, 0, none⟩)] w (GivesP L g v d i r w) := by
  have HIN := Lib.hid hin
  have HI := Lib.hid ho
  have hgl := h.rd.lt
  have hmk := mkf
  obtain ⟨W, hW, hS, hq, hP, hB, hz⟩ := single_world h
  have HW := Lib.hid hW
  have HS := Lib.hid hS
  have HP := Lib.hid hP
  have HB := Lib.hid hB
  obtain ⟨⟨hg1, c0, c1, _, _, _⟩, _, _, _⟩ := hS
  clear hin ho h hP hB hW
  go_enter Tryz.func147, Tryz.ntmps147
  go_wp2_with fail
  rw [← HW.out]
  clear HW
  have hqz : w.heap.size < W.heap.size := by omega
  go_region_held3 (fun w' => w'.cell? ⟨w.heap.size, 0, none⟩ = some (.pointer (some ⟨g, 0, none⟩)) ∧ w'.cell? ⟨g, 0, none⟩ = some v ∧ w'.cell? ⟨g, 1, none⟩ = some (.int .i64 i) ∧ Below W.heap.size W w')
    (first | exact ⟨hq, c0, c1, Below.refl _ _⟩ | exact ⟨hq, c0, c1, below_dr _⟩ | exact keptQ (w1 := W.drew) hg1 hqz ⟨hq, c0, c1, below_dr _⟩ hb1)
    (first | (go_at_call 48; refine (is_at (s := [40]) HI.out v _ (HS.out.on (below_dr _)).read).mono ?_; rintro e w1 ⟨rfl, hb1⟩))
  have hbw := below_then (below_dr W) hb1
  have HBW := Lib.hid hbw
  have HS1 := Lib.hid (HS.out.on hbw)
  have HP1 := Lib.hid (HP.out.on hbw)
  have hq1 := (hbw.cell (p := ⟨w.heap.size, 0, none⟩) hqz).trans hq
  have hz1 : w.heap.size + 1 < w1.heap.size := by have := hbw.size; omega
  clear hb1 hbw c0 c1 hq
  go_wp2_with fail
  refine (HIN.out w.heap.size w1 HS1.out (by omega) (by omega) hq1).mono ?_
  rintro e w2 ⟨P, A, n, c, hPr, rfl, hown, hS2, hK2⟩
  have HPr := Lib.hid hPr
  have HO := Lib.hid hown
  have HS2 := Lib.hid hS2
  have HK : Hid (Keeps g w w2) := Lib.hid ((Keeps.of (below_then HB.out HBW.out)).trans hK2)
  obtain ⟨p0, p1, p2, p3, p4, p5, p6⟩ := HP1.out.keep (by omega) hK2
  clear hPr hown hS2 hK2 hq1
  go_wp2_with fail
  refine bodyPost_ret (v := .tuple #[.agg #[.slice A n c, .int .i64 P.many, .int .i64 P.deep], .int .i64 (errOf r)]) (by simp [results, Tryz.results147, go_sem, *]) rfl ?_
  exact gives_end (rb := w.heap.size + 1) HPr.out rfl (HO.out.base (by omega)) (fun b hb => by have := (ownN_block HO.out b hb).1; omega) HS2.out HK.out (by omega) (by omega)

set_option maxRecDepth 100000 in
set_option maxHeartbeats 4000000 in
theorem single_leaf (L : List Tok) (g : Nat) (v : Value) (i d : Nat) (w : World) (h : Sits L w g v i d) (hl : L.length ≤ 10000) (hsm : SmallT L) (ho : isB L i [40] = false) (hsg : signAt L 6 i = 0) :
    Calls Tryz.prog 147 #[.pointer (some ⟨g, 0, none⟩)] w (GivesP L g v d i (leafR L i) w) := by
  have HSG := Lib.hid hsg
  have HSM := Lib.hid hsm
  clear hsg hsm
  have HI := Lib.hid ho
  have hgl := h.rd.lt
  have hmk := mkf
  obtain ⟨W, hW, hS, hq, hP, hB, hz⟩ := single_world h
  have HW := Lib.hid hW
  have HS := Lib.hid hS
  have HP := Lib.hid hP
  have HB := Lib.hid hB
  obtain ⟨⟨hg1, c0, c1, _, _, _⟩, _, _, _⟩ := hS
  clear ho h hP hB hW
  go_enter Tryz.func147, Tryz.ntmps147
  go_wp2_with fail
  rw [← HW.out]
  clear HW
  have hqz : w.heap.size < W.heap.size := by omega
  go_region_held3 (fun w' => w'.cell? ⟨w.heap.size, 0, none⟩ = some (.pointer (some ⟨g, 0, none⟩)) ∧ w'.cell? ⟨g, 0, none⟩ = some v ∧ w'.cell? ⟨g, 1, none⟩ = some (.int .i64 i) ∧ Below W.heap.size W w')
    (first | exact ⟨hq, c0, c1, Below.refl _ _⟩ | exact ⟨hq, c0, c1, below_dr _⟩ | exact keptQ (w1 := W.drew) hg1 hqz ⟨hq, c0, c1, below_dr _⟩ hb1)
    (first | (go_at_call 48; refine (is_at (s := [40]) HI.out v _ (HS.out.on (below_dr _)).read).mono ?_; rintro e w1 ⟨rfl, hb1⟩))
  have hbw := below_then (below_dr W) hb1
  have HBW := Lib.hid hbw
  have HS1 := Lib.hid (HS.out.on hbw)
  have HP1 := Lib.hid (HP.out.on hbw)
  have hq1 := (hbw.cell (p := ⟨w.heap.size, 0, none⟩) hqz).trans hq
  have hz1 : w.heap.size + 1 < w1.heap.size := by have := hbw.size; omega
  clear hb1 hbw c0 c1 hq
  go_wp2_with fail
  refine (sign_any L g v i d 6 _ HS1.out).mono ?_
  rw [HSG.out]
  rintro e w2 ⟨rfl, hb2⟩
  have HB2 := Lib.hid (below_then HB.out (below_then HBW.out hb2))
  have HS2 := Lib.hid (HS1.out.on hb2)
  have HP2 := Lib.hid (HP1.out.on hb2)
  have hq2 := (hb2.cell (p := ⟨w.heap.size, 0, none⟩) (by show w.heap.size < _; omega)).trans hq1
  have hz2 : w.heap.size + 1 < w2.heap.size := by have := hb2.size; omega
  clear hb2 hq1
  go_wp2_with fail
  refine (leaf_any L g v i d _ HS2.out hl HSM.out).mono ?_
  rintro e w3 ⟨P, A, n, c, hPr, rfl, hown, hS3, hK3⟩
  have HPr := Lib.hid hPr
  have HO := Lib.hid hown
  have HS3 := Lib.hid hS3
  have HK : Hid (Keeps g w w3) := Lib.hid ((Keeps.of HB2.out).trans hK3)
  obtain ⟨p0, p1, p2, p3, p4, p5, p6⟩ := HP2.out.keep (by omega) hK3
  clear hPr hown hS3 hK3 hq2
  generalize leafR L i = r at *
  go_wp2_with fail
  refine bodyPost_ret (v := .tuple #[.agg #[.slice A n c, .int .i64 P.many, .int .i64 P.deep], .int .i64 (errOf r)]) (by simp [results, Tryz.results147, go_sem, *]) rfl ?_
  exact gives_end (rb := w.heap.size + 1) HPr.out rfl (HO.out.base (by omega)) (fun b hb => by have := (ownN_block HO.out b hb).1; omega) HS3.out HK.out (by omega) (by omega)

theorem Nd.keep {g b : Nat} {w w' : World} {x0 x1 x2 x3 : Value} (h : Nd w b x0 x1 x2 x3) (hb : b ≠ g) (hk : Keeps g w w') : Nd w' b x0 x1 x2 x3 :=
  ⟨Nat.lt_of_lt_of_le h.lt hk.size, (hk.cell h.lt hb).trans h.c0, (hk.cell h.lt hb).trans h.c1, (hk.cell h.lt hb).trans h.c2, (hk.cell h.lt hb).trans h.c3, (hk.frozen h.lt hb).trans h.f0, (hk.frozen h.lt hb).trans h.f1, (hk.frozen h.lt hb).trans h.f2⟩
/-- One part, as an argument of join. -/
theorem one_part {w : World} {B : Nat} {P : Prt} {A : Option Addr} {n c : Nat} (ho : OwnN w B (.slice A n c) P.ns) :
    ∃ J, J = (w.alloc (.cells #[.slice A n c, .int .i64 P.many, .int .i64 P.deep] 166)).alloc (.cells #[.slice A n c, .int .i64 P.many, .int .i64 P.deep] 166) ∧ ReadP J (.slice (some ⟨w.heap.size + 1, 0, none⟩) 1 1) [P] ∧ Below w.heap.size w J := by
  have b1 := (Below.refl w.heap.size w).alloc (Nat.le_refl _) (.cells #[.slice A n c, .int .i64 P.many, .int .i64 P.deep] 166)
  have s1 : (w.alloc (.cells #[.slice A n c, .int .i64 P.many, .int .i64 P.deep] 166)).heap.size = w.heap.size + 1 := by simp
  generalize w.alloc (.cells #[.slice A n c, .int .i64 P.many, .int .i64 P.deep] 166) = w1 at *
  have b2 := (Below.refl w1.heap.size w1).alloc (Nat.le_refl _) (.cells #[.slice A n c, .int .i64 P.many, .int .i64 P.deep] 166)
  have hp := pd_new w1 (.slice A n c) (.int .i64 P.many) (.int .i64 P.deep)
  rw [s1] at hp
  refine ⟨_, rfl, ⟨_, _, rfl, Nat.le_refl _, fun i p hi => ?_⟩, below_then b1 b2⟩
  match i, hi with
  | 0, hi =>
    simp at hi; subst hi
    exact ⟨_, _, rfl, hp.lt, hp.c0, hp.c1, hp.c2, (ho.on (below_then b1 b2)).lies⟩
/-- What a sign of one operand ahead comes to. -/
def unR (a : Nod) : Res → Res
  | .ok x to => .ok (.un a x) to
  | .bad e j => .bad e j

set_option maxRecDepth 100000 in
set_option maxHeartbeats 4000000 in
theorem single_un (L : List Tok) (g : Nat) (v : Value) (i d k : Nat) (w : World) (h : Sits L w g v i d) (ho : isB L i [40] = false) (hsg : signAt L 6 i = k) (hk : k ≠ 0) (r : Res) (Q : Prt → Prop)
    (hin : ∀ (W : World), Sits L W g v i d → Calls Tryz.prog 155 #[.pointer (some ⟨g, 0, none⟩), .func (.func 147) #[.pointer (some ⟨g, 0, none⟩)] #[]] W (GivesQ L g v d Q (errOf r) (posOf r) W))
    (hfit : ∀ P, Q P → FitsP P ∧ PrtFor i (unR ⟨k, 0, [], plAt L i⟩ r) (joinP ⟨k, 0, [], plAt L i⟩ [P])) :
    Calls Tryz.prog 147 #[.pointer (some ⟨g, 0, none⟩)] w (GivesP L g v d i (unR ⟨k, 0, [], plAt L i⟩ r) w) := by
  have hlt := signAt_lt (L := L) (b := 6) (i := i) (by rw [hsg]; exact hk)
  have hk0 : ((k : Int) == 0) = false := beq_eq_false_iff_ne.2 (by omega)
  have HSG := Lib.hid hsg
  have HIN := Lib.hid hin
  have HFIT := Lib.hid hfit
  have hat : L[i]? = some L[i] := List.getElem?_eq_getElem hlt
  generalize L[i] = t at *
  have HPL : Hid (plAt L i = t.pl) := Lib.hid (by unfold plAt; rw [hat])
  have HAT := Lib.hid hat
  clear hsg hin hfit hat
  have HI := Lib.hid ho
  have hgl := h.rd.lt
  have hmk := mkf
  obtain ⟨W, hW, hS, hq, hP, hB, hz⟩ := single_world h
  have HW := Lib.hid hW
  have HS := Lib.hid hS
  have HP := Lib.hid hP
  have HB := Lib.hid hB
  obtain ⟨⟨hg1, c0, c1, _, _, _⟩, _, _, _⟩ := hS
  clear ho h hP hB hW
  go_enter Tryz.func147, Tryz.ntmps147
  go_wp2_with fail
  rw [← HW.out]
  clear HW
  have hqz : w.heap.size < W.heap.size := by omega
  go_region_held3 (fun w' => w'.cell? ⟨w.heap.size, 0, none⟩ = some (.pointer (some ⟨g, 0, none⟩)) ∧ w'.cell? ⟨g, 0, none⟩ = some v ∧ w'.cell? ⟨g, 1, none⟩ = some (.int .i64 i) ∧ Below W.heap.size W w')
    (first | exact ⟨hq, c0, c1, Below.refl _ _⟩ | exact ⟨hq, c0, c1, below_dr _⟩ | exact keptQ (w1 := W.drew) hg1 hqz ⟨hq, c0, c1, below_dr _⟩ hb1)
    (first | (go_at_call 48; refine (is_at (s := [40]) HI.out v _ (HS.out.on (below_dr _)).read).mono ?_; rintro e w1 ⟨rfl, hb1⟩))
  have hbw := below_then (below_dr W) hb1
  have HBW := Lib.hid hbw
  have HS1 := Lib.hid (HS.out.on hbw)
  have HP1 := Lib.hid (HP.out.on hbw)
  have hq1 := (hbw.cell (p := ⟨w.heap.size, 0, none⟩) hqz).trans hq
  have hz1 : w.heap.size + 1 < w1.heap.size := by have := hbw.size; omega
  clear hb1 hbw c0 c1 hq
  go_wp2_with fail
  refine (sign_any L g v i d 6 _ HS1.out).mono ?_
  rw [HSG.out]
  rintro e w2 ⟨rfl, hb2⟩
  have HB2 := Lib.hid (below_then HB.out (below_then HBW.out hb2))
  have HS2 := Lib.hid (HS1.out.on hb2)
  have HP2 := Lib.hid (HP1.out.on hb2)
  have hq2 := (hb2.cell (p := ⟨w.heap.size, 0, none⟩) (by show w.heap.size < _; omega)).trans hq1
  have hz2 : w.heap.size + 1 < w2.heap.size := by have := hb2.size; omega
  clear hb2 hq1
  obtain ⟨⟨hg2, c0, c1, c2, f1, f2⟩, ⟨A0, cc, hv0, hcc, hr0⟩, _, _⟩ := HS2.out
  obtain ⟨b, rfl, hbg, x0, x1, x2, x3⟩ := hr0 i t HAT.out
  subst hv0
  clear hr0 c2 f1 f2 x0 x1 x2
  have hi0 : (0 : Int) ≤ (i : Int) := by omega
  have hi1 : (i : Int) < (L.length : Int) := by omega
  have n0 := World.new_ne w2 _ c0
  have n1 := World.new_ne w2 _ c1
  have m3 := World.new_ne w2 _ x3
  have q3 := World.new_ne w2 _ hq2
  go_wp2_with fail
  go_region_held3 (fun w' => w'.cell? ⟨w.heap.size, 0, none⟩ = some (.pointer (some ⟨g, 0, none⟩)) ∧ w'.cell? ⟨g, 0, none⟩ = some (.slice (some ⟨b, 0, none⟩) L.length cc) ∧ w'.cell? ⟨g, 1, none⟩ = some (.int .i64 i) ∧ w'.cell? ⟨b, i * 4 + 3, none⟩ = some (.int .i64 t.pl))
    (first | exact ⟨hq2, c0, c1, x3⟩ | go_keep)
    (fail)
  have hN := nd_new w2 (.int .i64 k) (.int .i64 0) (.string ⟨#[]⟩) (.int .i64 t.pl) 33
  have hBn := ((Below.refl w2.heap.size w2).alloc (Nat.le_refl _) (.cells #[.int .i64 k, .int .i64 0, .string ⟨#[]⟩, .int .i64 t.pl] 33)).trans (below_any _ _)
  replace hN := hN.on (below_any _ _)
  clear n0 n1 m3 q3 c0 c1 x3 hi0 hi1
  generalize hZ : (w2.alloc (.cells #[.int .i64 k, .int .i64 0, .string ⟨#[]⟩, .int .i64 t.pl] 33)).drew = Z at *
  clear hZ
  have HSZ := Lib.hid (HS2.out.on hBn)
  have HPZ := Lib.hid (HP2.out.on hBn)
  have HBZ := Lib.hid (below_then HB2.out hBn)
  have HNZ := Lib.hid hN
  have hqZ := (hBn.cell (p := ⟨w.heap.size, 0, none⟩) (by show w.heap.size < _; omega)).trans hq2
  have hzn := hN.lt
  clear hN hBn hq2
  go_wp2_with fail
  refine (HIN.out Z HSZ.out).mono ?_
  rintro e w3 ⟨P, A, n, c, hPr, rfl, hown, hS3, hK3⟩
  have HPr := Lib.hid hPr
  have HO := Lib.hid hown
  have HS3 := Lib.hid hS3
  have HK : Hid (Keeps g w w3) := Lib.hid ((Keeps.of HBZ.out).trans hK3)
  have HP3 := Lib.hid (HPZ.out.keep (by omega) hK3)
  have hN3 := HNZ.out.keep (by omega) hK3
  have hz3 : w2.heap.size < w3.heap.size := by have := hK3.size; omega
  obtain ⟨y0, y1, y2, y3, y4, _, _, _⟩ := hN3
  clear hPr hown hS3 hK3 hqZ
  go_wp2_with fail
  obtain ⟨J, hJ, hRJ, hBJ⟩ := one_part (P := P) HO.out
  rw [← hJ]
  have HRJ := Lib.hid hRJ
  have HBJ := Lib.hid hBJ
  clear hJ hRJ hBJ y0 y1 y2 y3 y4
  have hfits := (HFIT.out P HPr.out).1
  have HFT := Lib.hid hfits
  clear hfits
  refine (join_any ⟨k, 0, [], t.pl⟩ _ [P] J HRJ.out (by simp) (by intro p hp; simp at hp; subst hp; exact HFT.out)).mono ?_
  rintro e w5 ⟨u, rfl, ho5, hb5⟩
  obtain ⟨A5, n5, c5, rfl⟩ := own_slice ho5
  have HO5 := Lib.hid ho5
  have hb35 := below_then HBJ.out hb5
  have HB5 := Lib.hid hb35
  obtain ⟨p0, p1, p2, p3, p4, p5, p6⟩ := HP3.out.on hb35
  have hJz := HBJ.out.size
  clear ho5 hb5 hb35
  have HE : Hid (errOf (unR ⟨k, 0, [], plAt L i⟩ r) = errOf r) := Lib.hid (by cases r <;> rfl)
  have HPo : Hid (posOf (unR ⟨k, 0, [], plAt L i⟩ r) = posOf r) := Lib.hid (by cases r <;> rfl)
  have hfp := (HFIT.out P HPr.out).2
  rw [show joinP ⟨(k : Int), 0, [], plAt L i⟩ [P] = joinP ⟨(k : Int), 0, [], (t.pl : Int)⟩ [P] from by rw [HPL.out]] at hfp
  have HFP := Lib.hid hfp
  clear hfp
  generalize joinP ⟨(k : Int), 0, [], (t.pl : Int)⟩ [P] = P' at *
  go_wp2_with fail
  refine bodyPost_ret (v := .tuple #[.agg #[.slice A5 n5 c5, .int .i64 P'.many, .int .i64 P'.deep], .int .i64 (errOf r)]) (by simp [results, Tryz.results147, go_sem, *]) rfl ?_
  exact gives_end (rb := w.heap.size + 1) HFP.out HE.out.symm (HO5.out.base (by omega)) (fun b hb => by have := (ownN_block HO5.out b hb).1; omega) (by rw [HPo.out]; exact HS3.out.on HB5.out) (HK.out.andBelow HB5.out HK.out.size) (by omega) (by omega)

theorem manys_one (P : Prt) : manys [P] = P.many + 1 := by simp [manys]; omega
theorem deeps_one (P : Prt) : deepsP [P] = max 1 (P.deep + 1) := by simp [deepsP]
theorem unR_fit {L : List Tok} {i : Nat} {a : Nod} {r : Res} (hl : L.length ≤ 10000) (hi : i < L.length) (hf : Fine L (i + 1) r) : ∀ P, PrtFor (i + 1) r P → FitsP P ∧ PrtFor i (unR a r) (joinP a [P]) := by
  intro P hP
  cases r with
  | ok x to =>
    obtain rfl : P = prtOf x := hP
    obtain ⟨h1, h2, h3, h4, h5⟩ := hf
    exact ⟨fits_ok (by omega), join_un a x⟩
  | bad e j =>
    obtain ⟨_, g1, g2⟩ := hf
    obtain ⟨h1, h2, h3, h4⟩ := hP
    refine ⟨⟨h1, by omega, by omega⟩, ?_⟩
    show (joinP a [P]).ns.length ≤ 40 ∧ (joinP a [P]).ns.length ≤ manys [P] ∧ manys [P] ≤ j - i + 1 ∧ deepsP [P] ≤ j - i + 1
    have e1 : (joinP a [P]).ns = if manys [P] ≤ 40 then allN a [P] else [] := rfl
    have e2 : (allN a [P]).length = P.ns.length + 1 := by simp [allN]
    rw [e1, deeps_one]
    rw [manys_one] at *
    split
    · rw [e2]; omega
    · simp; omega
theorem single_step (L : List Tok) (f : Nat) (hl : L.length ≤ 10000) (hsm : SmallT L) (hc : ChainSays L f) (hs : SingleSays L f) : SingleSays L (f + 1) := by
  intro i d r g v w hd hr h
  rw [singleF] at hr
  cases ho : isB L i [40] with
  | true =>
    have hlt := isB_lt ho
    rw [ho, if_pos rfl] at hr
    by_cases h12 : d = 12
    · subst h12
      rw [if_pos rfl] at hr
      simp at hr; subst hr
      refine single_paren L g v i 12 w h ho _ (fun q W hS _ _ _ => ?_)
      refine (inside_deep L g v _ i W hS).mono ?_
      rintro e w' ⟨P, A, n, c, hq, h1, h2, h3, h4⟩
      exact ⟨P, A, n, c, by rw [hq]; exact prt_none _ _ _, h1, h2, h3, h4⟩
    · rw [if_neg h12] at hr
      cases hch : chainF L f 1 (i + 1) (d + 1) with
      | none => rw [hch] at hr; cases hr
      | some r1 =>
        have e : r = parenR L r1 := by
          rw [hch] at hr
          cases r1 with
          | ok x to =>
            simp only at hr
            show r = if isB L to [41] = true then Res.ok x (to + 1) else wrongV L to
            split at hr
            · simp at hr; rw [if_pos (by assumption)]; exact hr.symm
            · simp at hr; rw [if_neg (by assumption)]; exact hr.symm
          | bad e j => simp at hr; exact hr.symm
        subst e
        refine single_paren L g v i d w h ho _ (fun q W hS hq hqg hqc => ?_)
        refine (inside_paren L g v i d W hS hl hlt (by omega) q hq hqg hqc f hc r1 hch).mono ?_
        rintro e w' ⟨P, A, n, c, h0, h1, h2, h3, h4⟩
        exact ⟨P, A, n, c, prt_from h0 (by omega), h1, h2, h3, h4⟩
  | false =>
    rw [ho, if_neg (by simp)] at hr
    by_cases hsg : signAt L 6 i = 0
    · rw [if_pos hsg] at hr
      simp at hr; subst hr
      exact single_leaf L g v i d w h hl hsm ho hsg
    · have hlt := signAt_lt hsg
      rw [if_neg hsg] at hr
      by_cases h12 : d = 12
      · subst h12
        rw [if_pos rfl] at hr
        simp at hr; subst hr
        refine single_un L g v i 12 (signAt L 6 i) w h ho rfl hsg (.bad 7 i) (fun P => P = ⟨[], 0, 0⟩) (fun W hS => inside_deep L g v _ i W hS) (fun P hP => ?_)
        subst hP
        refine ⟨⟨by simp, by simp, by simp⟩, ?_⟩
        show (joinP _ [⟨[], 0, 0⟩]).ns.length ≤ 40 ∧ (joinP _ [⟨[], 0, 0⟩]).ns.length ≤ 1 ∧ 1 ≤ i - i + 1 ∧ 1 ≤ i - i + 1
        refine ⟨by show (1 : Nat) ≤ 40; omega, Nat.le_refl _, by omega, by omega⟩
      · rw [if_neg h12] at hr
        cases hch : singleF L f (i + 1) (d + 1) with
        | none => rw [hch] at hr; cases hr
        | some r1 =>
          have e : r = unR (signN L 6 i) r1 := by
            rw [hch] at hr
            cases r1 with
            | ok x to => simp at hr; exact hr.symm
            | bad e j => simp at hr; exact hr.symm
          subst e
          have hfine := (fine_all L f).2.2 _ _ _ hch
          exact single_un L g v i d (signAt L 6 i) w h ho rfl hsg r1 (PrtFor (i + 1) r1) (fun W hS => inside_single L g v i d W hS hl hlt (by omega) f hs r1 hch) (fun P hP => unR_fit hl hlt hfine P hP)
end Go.Proofs.YtpeohfgadnfnpaaGreatDoor
