/-
  DERIVED. Layer 3: contracts of the reader's inside, single and chain.
-/
import Derived.Test.YtpeohfgadnfnpaaGreatDoorQ13
namespace Go.Proofs.YtpeohfgadnfnpaaGreatDoor
open Go.RowKit

def SingleSays (L : List Tok) (f : Nat) : Prop := ∀ (i d : Nat) (r : Res) (g : Nat) (v : Value) (w : World), d ≤ 12 → singleF L f i d = some r → Sits L w g v i d → Calls Tryz.prog 147 #[.pointer (some ⟨g, 0, none⟩)] w (GivesP L g v d i r w)
def ChainSays (L : List Tok) (f : Nat) : Prop := ∀ (b i d : Nat) (r : Res) (g : Nat) (v : Value) (w : World), 1 ≤ b → b ≤ 6 → d ≤ 12 → chainF L f b i d = some r → Sits L w g v i d → Calls Tryz.prog 141 #[.pointer (some ⟨g, 0, none⟩), .int .i64 b] w (GivesP L g v d i r w)

theorem Pd.keep {g b : Nat} {w w' : World} {x y z : Value} (h : Pd w b x y z) (hb : b ≠ g) (hk : Keeps g w w') : Pd w' b x y z :=
  ⟨Nat.lt_of_lt_of_le h.lt hk.size, (hk.cell h.lt hb).trans h.c0, (hk.cell h.lt hb).trans h.c1, (hk.cell h.lt hb).trans h.c2, (hk.frozen h.lt hb).trans h.f0, (hk.frozen h.lt hb).trans h.f1, (hk.frozen h.lt hb).trans h.f2⟩
/-- The world in which what stands inside is read. -/
theorem in_world {L : List Tok} {g : Nat} {v : Value} {i d : Nat} {w : World} (h : Sits L w g v i d) :
    ∃ Y, Y = ((w.setCell ⟨g, 1, none⟩ (.int .i64 ((i : Int) + 1))).setCell ⟨g, 2, none⟩ (.int .i64 ((d : Int) + 1))).alloc (.cells #[.slice none 0 0, .int .i64 0, .int .i64 0] 166) ∧ Sits L Y g v (i + 1) (d + 1) ∧ Pd Y w.heap.size (.slice none 0 0) (.int .i64 0) (.int .i64 0) ∧ Keeps g w Y := by
  refine ⟨_, rfl, ?_, ?_, ?_⟩
  · exact ((h.set1 (i + 1)).set2 (d + 1)).on ((Below.refl _ _).alloc (Nat.le_refl _) _)
  · have := pd_new ((w.setCell ⟨g, 1, none⟩ (.int .i64 ((i : Int) + 1))).setCell ⟨g, 2, none⟩ (.int .i64 ((d : Int) + 1))) (.slice none 0 0) (.int .i64 0) (.int .i64 0)
    simpa using this
  · exact (((Keeps.refl g w).set).set).andBelow ((Below.refl _ _).alloc (Nat.le_refl _) _) (by simp)

set_option maxRecDepth 100000 in
set_option maxHeartbeats 4000000 in
theorem inside_single (L : List Tok) (g : Nat) (v : Value) (i d : Nat) (w : World) (h : Sits L w g v i d) (hl : L.length ≤ 10000) (hi : i < L.length) (hd : d < 12) (f : Nat) (hf : SingleSays L f) (r : Res) (hr : singleF L f (i + 1) (d + 1) = some r) :
    Calls Tryz.prog 155 #[.pointer (some ⟨g, 0, none⟩), .func (.func 147) #[.pointer (some ⟨g, 0, none⟩)] #[]] w (GivesP L g v d (i + 1) r w) := by
  have HS := Lib.hid h
  have HF := Lib.hid hf
  have HR := Lib.hid hr
  obtain ⟨⟨hgl, c0, c1, c2, f1, f2⟩, _, _, _⟩ := h
  clear hf hr
  have hd2 : ((d : Int) == 12) = false := beq_eq_false_iff_ne.2 (by omega)
  go_enter Tryz.func155, Tryz.ntmps155
  go_wp2_with fail
  obtain ⟨Y, hY, hSY, hPY, hKY⟩ := in_world HS.out
  rw [← hY]
  have HSY := Lib.hid hSY
  have HPY := Lib.hid hPY
  have HKY := Lib.hid hKY
  clear hY hSY hPY hKY c0 c1 c2 f1 f2
  refine (HF.out (i + 1) (d + 1) r g v Y (by omega) HR.out HSY.out).mono ?_
  rintro e w1 ⟨P, A, n, c, hP, rfl, ho, hS1, hK1⟩
  have hyl := HPY.out.lt
  have HP := Lib.hid hP
  have HO := Lib.hid ho
  have HS1 := Lib.hid hS1
  have HK1 := Lib.hid hK1
  obtain ⟨⟨hg1, c0, c1, c2, f1, f2⟩, _, _, _⟩ := hS1
  obtain ⟨p0, p1, p2, p3, p4, p5, p6⟩ := HPY.out.keep (by omega) hK1
  clear hP ho hK1
  have hne : ¬ g = w.heap.size := by omega
  have hne2 : ¬ w.heap.size = g := by omega
  go_wp2_with fail
  refine bodyPost_ret (v := .tuple #[.agg #[.slice A n c, .int .i64 P.many, .int .i64 P.deep], .int .i64 (errOf r)]) (by simp [results, Tryz.results155, go_sem, *]) rfl ?_
  refine GivesP.on (gives_end (w5 := w1.setCell ⟨g, 2, none⟩ (.int .i64 d)) (rb := w.heap.size) HP.out rfl (HO.out.keep (by omega) (Keeps.refl _ _).set |>.base (by omega)) (fun b hb => by have := (ownN_block HO.out b hb).1; omega) (HS1.out.set2 d) ((HKY.out.trans HK1.out).set) hgl (Nat.le_refl _)) ((Below.refl _ _).alloc (Nat.le_refl _) _)

/-- What brackets come to. -/
def parenR (L : List Tok) : Res → Res
  | .ok x to => if isB L to [41] = true then .ok x (to + 1) else wrongV L to
  | .bad e j => .bad e j
theorem paren_yes {L : List Tok} {x : Ex} {to : Nat} (h : isB L to [41] = true) : parenR L (.ok x to) = .ok x (to + 1) := by
  show (if isB L to [41] = true then Res.ok x (to + 1) else wrongV L to) = _
  rw [if_pos h]
theorem paren_no {L : List Tok} {x : Ex} {to : Nat} (h : isB L to [41] = false) : parenR L (.ok x to) = wrongV L to := by
  show (if isB L to [41] = true then Res.ok x (to + 1) else wrongV L to) = _
  rw [if_neg (by rw [h]; simp)]
theorem closed_at (L : List Tok) (g : Nat) (v : Value) (i d : Nat) (ee : Int) (he : (if L.length ≤ i then (6 : Int) else 5) = ee) (w : World) (h : Sits L w g v i d) (hq : isB L i [41] = false) : Calls Tryz.prog 157 #[.pointer (some ⟨g, 0, none⟩)] w (Moves L g v i d ee w) := by
  subst he; exact closed_no L g v i d w h hq
theorem set3_far {w : World} {b p o : Nat} {x y z : Value} (h : b ≠ p) : (((w.setCell ⟨b, 0, none⟩ x).setCell ⟨b, 1, none⟩ y).setCell ⟨b, 2, none⟩ z).cell? ⟨p, o, none⟩ = w.cell? ⟨p, o, none⟩ := by
  rw [World.cell?_setCell_other _ _ _ _ (fun e => h (congrArg Addr.block e)), World.cell?_setCell_other _ _ _ _ (fun e => h (congrArg Addr.block e)), World.cell?_setCell_other _ _ _ _ (fun e => h (congrArg Addr.block e))]
theorem prt_bad {L : List Tok} {i to : Nat} {x : Ex} (e : Int) (hf : Fine L i (.ok x to)) : PrtFor i (.bad e to) (prtOf x) := by
  obtain ⟨h1, h2, h3, h4, h5⟩ := hf
  have hd := deep_size x
  refine ⟨?_, ?_, by show x.size ≤ _; omega, by show x.deep ≤ _; omega⟩
  · show (if x.size ≤ 40 then x.flat else []).length ≤ 40
    split
    · rw [flat_len]; assumption
    · simp
  · show (if x.size ≤ 40 then x.flat else []).length ≤ x.size
    split
    · rw [flat_len]; exact Nat.le_refl _
    · simp

set_option maxRecDepth 100000 in
set_option maxHeartbeats 4000000 in
theorem paren_any (L : List Tok) (g : Nat) (v : Value) (i d q : Nat) (w : World) (h : Sits L w g v i d) (hl : L.length ≤ 10000) (hd : d ≤ 12) (hq : q < w.heap.size) (hqg : q ≠ g) (hqc : w.cell? ⟨q, 0, none⟩ = some (.pointer (some ⟨g, 0, none⟩))) (f : Nat) (hf : ChainSays L f) (r : Res) (hr : chainF L f 1 i d = some r) :
    Calls Tryz.prog 156 #[.pointer (some ⟨q, 0, none⟩)] w (GivesP L g v d i (parenR L r) w) := by
  have HF := Lib.hid hf
  have HR := Lib.hid hr
  have hfine := (fine_all L f).1 1 i d r (by omega) (by omega) hr
  have HFI := Lib.hid hfine
  have hgl := h.rd.lt
  have HB0 := Lib.hid ((Below.refl w.heap.size w).alloc (Nat.le_refl _) (.cells #[.slice none 0 0, .int .i64 0, .int .i64 0] 166))
  have HS0 := Lib.hid (h.on HB0.out)
  have HP0 := Lib.hid (pd_new w (.slice none 0 0) (.int .i64 0) (.int .i64 0))
  have HQ0 : Hid ((w.alloc (.cells #[.slice none 0 0, .int .i64 0, .int .i64 0] 166)).cell? ⟨q, 0, none⟩ = some (.pointer (some ⟨g, 0, none⟩))) := Lib.hid ((HB0.out.cell (p := ⟨q, 0, none⟩) hq).trans hqc)
  clear hf hr hfine h
  go_enter Tryz.func156, Tryz.ntmps156
  go_wp2_with fail
  refine (HF.out 1 i d r g v _ (by omega) (by omega) hd HR.out HS0.out).mono ?_
  rintro e w1 ⟨P, A, n, c, hP, rfl, ho, hS1, hK1⟩
  have HP := Lib.hid hP
  have HO := Lib.hid ho
  have HS1 := Lib.hid hS1
  have HK1 : Hid (Keeps g w w1) := Lib.hid ((Keeps.of HB0.out).trans hK1)
  have HPD := Lib.hid (HP0.out.keep (by omega) hK1)
  have HQ1 : Hid (w1.cell? ⟨q, 0, none⟩ = some (.pointer (some ⟨g, 0, none⟩))) := Lib.hid ((hK1.cell (by simp; omega) hqg).trans HQ0.out)
  have hsz0 : (w.alloc (.cells #[.slice none 0 0, .int .i64 0, .int .i64 0] 166)).heap.size = w.heap.size + 1 := by simp
  rw [hsz0] at ho
  have HO := Lib.hid ho
  have hszk := hK1.size
  rw [hsz0] at hszk
  clear hP ho hS1 hK1 hsz0 hqc
  cases r with
  | bad e j =>
    obtain ⟨p0, p1, p2, p3, p4, p5, p6⟩ := HPD.out
    obtain ⟨he, _⟩ := HFI.out
    have he2 : (e != 0) = true := by rcases he with rfl | rfl | rfl <;> rfl
    clear he
    simp only [errOf]
    go_wp2_with fail
    refine bodyPost_ret (v := .tuple #[.agg #[.slice none 0 0, .int .i64 0, .int .i64 0], .int .i64 e]) (by simp [results, Tryz.results156, go_sem, *]) rfl ?_
    exact GivesP.on (gives_end (P := ⟨[], 0, 0⟩) (prt_none _ _ _) rfl (ownN_nil _ _) (fun b hb => by simp [Value.ownBlock] at hb) HS1.out HK1.out hgl (Nat.le_refl _)) ((Below.refl _ _).alloc (Nat.le_refl _) _)
  | ok x to =>
    simp only [errOf]
    cases hcl : isB L to [41] with
    | true =>
      have HI := Lib.hid hcl
      have HPR : Hid (parenR L (.ok x to) = .ok x (to + 1)) := Lib.hid (paren_yes hcl)
      clear hcl
      go_wp2_with fail
      have hsz1 : w1.heap.size < (w1.alloc (.cells #[.slice A n c, .int .i64 P.many, .int .i64 P.deep] 166)).heap.size := by simp
      have HBZ := Lib.hid ((Below.refl w1.heap.size w1).alloc (Nat.le_refl _) (.cells #[.slice A n c, .int .i64 P.many, .int .i64 P.deep] 166))
      have HPZ := Lib.hid (pd_new w1 (.slice A n c) (.int .i64 P.many) (.int .i64 P.deep))
      generalize w1.alloc (.cells #[.slice A n c, .int .i64 P.many, .int .i64 P.deep] 166) = Z at *
      have HSZ := Lib.hid (HS1.out.on HBZ.out)
      have HRZ := Lib.hid (HPD.out.on HBZ.out)
      have hqZ := (HBZ.out.cell (p := ⟨q, 0, none⟩) (by show q < _; omega)).trans HQ1.out
      have hg1 := HS1.out.rd.lt
      obtain ⟨z0, z1, z2, z3, z4, z5, z6⟩ := HPZ.out
      have hqz : q < Z.heap.size := by omega
      go_region_held3 (fun w' => w'.cell? ⟨w1.heap.size, 0, none⟩ = some (.slice A n c) ∧ w'.cell? ⟨w1.heap.size, 1, none⟩ = some (.int .i64 P.many) ∧ w'.cell? ⟨w1.heap.size, 2, none⟩ = some (.int .i64 P.deep) ∧ w'.cell? ⟨q, 0, none⟩ = some (.pointer (some ⟨g, 0, none⟩)))
        (first | exact ⟨z1, z2, z3, hqZ⟩ | exact ⟨(hK.cell z0 (by omega)).trans z1, (hK.cell z0 (by omega)).trans z2, (hK.cell z0 (by omega)).trans z3, (hK.cell hqz hqg).trans hqZ⟩ | exact ⟨(set3_far (by omega)).trans ((hK.cell z0 (by omega)).trans z1), (set3_far (by omega)).trans ((hK.cell z0 (by omega)).trans z2), (set3_far (by omega)).trans ((hK.cell z0 (by omega)).trans z3), (set3_far (by omega)).trans ((hK.cell hqz hqg).trans hqZ)⟩)
        (first | (go_at_call 157; refine (closed_yes L g v to d _ (HSZ.out.on (below_dr _)) hl HI.out).mono ?_; rintro e w2 ⟨rfl, hS2, hK⟩; obtain ⟨p0, p1, p2, p3, p4, p5, p6⟩ := (HRZ.out.on (below_dr Z)).keep (by omega) hK))
      have hK2 : Keeps g Z w2 := (Keeps.of (below_dr Z)).trans hK
      have HS2 := Lib.hid hS2
      have HK2 := Lib.hid hK2
      have HKw : Hid (Keeps g w w2) := Lib.hid ((HK1.out.andBelow HBZ.out (by omega)).trans hK2)
      have HOw : Hid (OwnN w2 w.heap.size (.slice A n c) P.ns) := Lib.hid (((HO.out.on HBZ.out).keep (by omega) hK2).base (by omega))
      clear hS2 hK2 hK z1 z2 z3 z4 z5 z6 hqZ
      go_wp2_with fail
      refine bodyPost_ret (v := .tuple #[.agg #[.slice A n c, .int .i64 P.many, .int .i64 P.deep], .int .i64 0]) (by simp [results, Tryz.results156, go_sem, *]) rfl ?_
      exact gives_end (r := parenR L (.ok x to)) (by rw [HPR.out]; exact HP.out) (by rw [HPR.out]; rfl) HOw.out (fun b hb => by have := (ownN_block HO.out b hb).1; omega) (by rw [HPR.out]; exact HS2.out) HKw.out hgl (Nat.le_refl _)
    | false =>
      have HI := Lib.hid hcl
      obtain ⟨ee, hee⟩ : ∃ ee : Int, (if L.length ≤ to then (6 : Int) else 5) = ee := ⟨_, rfl⟩
      have HEE := Lib.hid hee
      have HPR : Hid (parenR L (.ok x to) = .bad ee to) := Lib.hid (by rw [paren_no hcl, ← hee]; rfl)
      clear hee
      have PB : Hid (PrtFor i (.bad ee to) P) := Lib.hid (by have hp : P = prtOf x := HP.out; rw [hp]; exact prt_bad _ HFI.out)
      clear hcl
      go_wp2_with fail
      have hsz1 : w1.heap.size < (w1.alloc (.cells #[.slice A n c, .int .i64 P.many, .int .i64 P.deep] 166)).heap.size := by simp
      have HBZ := Lib.hid ((Below.refl w1.heap.size w1).alloc (Nat.le_refl _) (.cells #[.slice A n c, .int .i64 P.many, .int .i64 P.deep] 166))
      have HPZ := Lib.hid (pd_new w1 (.slice A n c) (.int .i64 P.many) (.int .i64 P.deep))
      generalize w1.alloc (.cells #[.slice A n c, .int .i64 P.many, .int .i64 P.deep] 166) = Z at *
      have HSZ := Lib.hid (HS1.out.on HBZ.out)
      have HRZ := Lib.hid (HPD.out.on HBZ.out)
      have hqZ := (HBZ.out.cell (p := ⟨q, 0, none⟩) (by show q < _; omega)).trans HQ1.out
      have hg1 := HS1.out.rd.lt
      obtain ⟨z0, z1, z2, z3, z4, z5, z6⟩ := HPZ.out
      have hqz : q < Z.heap.size := by omega
      go_region_held3 (fun w' => w'.cell? ⟨w1.heap.size, 0, none⟩ = some (.slice A n c) ∧ w'.cell? ⟨w1.heap.size, 1, none⟩ = some (.int .i64 P.many) ∧ w'.cell? ⟨w1.heap.size, 2, none⟩ = some (.int .i64 P.deep) ∧ w'.cell? ⟨q, 0, none⟩ = some (.pointer (some ⟨g, 0, none⟩)))
        (first | exact ⟨z1, z2, z3, hqZ⟩ | exact ⟨(hK.cell z0 (by omega)).trans z1, (hK.cell z0 (by omega)).trans z2, (hK.cell z0 (by omega)).trans z3, (hK.cell hqz hqg).trans hqZ⟩ | exact ⟨(set3_far (by omega)).trans ((hK.cell z0 (by omega)).trans z1), (set3_far (by omega)).trans ((hK.cell z0 (by omega)).trans z2), (set3_far (by omega)).trans ((hK.cell z0 (by omega)).trans z3), (set3_far (by omega)).trans ((hK.cell hqz hqg).trans hqZ)⟩)
        (first | (go_at_call 157; refine (closed_at L g v to d ee HEE.out _ (HSZ.out.on (below_dr _)) HI.out).mono ?_; rintro e w2 ⟨rfl, hS2, hK⟩; obtain ⟨p0, p1, p2, p3, p4, p5, p6⟩ := (HRZ.out.on (below_dr Z)).keep (by omega) hK))
      have hK2 : Keeps g Z w2 := (Keeps.of (below_dr Z)).trans hK
      have HS2 := Lib.hid hS2
      have HK2 := Lib.hid hK2
      have HKw : Hid (Keeps g w w2) := Lib.hid ((HK1.out.andBelow HBZ.out (by omega)).trans hK2)
      have HOw : Hid (OwnN w2 w.heap.size (.slice A n c) P.ns) := Lib.hid (((HO.out.on HBZ.out).keep (by omega) hK2).base (by omega))
      clear hS2 hK2 hK z1 z2 z3 z4 z5 z6 hqZ
      go_wp2_with fail
      refine bodyPost_ret (v := .tuple #[.agg #[.slice A n c, .int .i64 P.many, .int .i64 P.deep], .int .i64 ee]) (by simp [results, Tryz.results156, go_sem, *]) rfl ?_
      exact gives_end (r := parenR L (.ok x to)) (by rw [HPR.out]; exact PB.out) (by rw [HPR.out]; rfl) HOw.out (fun b hb => by have := (ownN_block HO.out b hb).1; omega) (by rw [HPR.out]; exact HS2.out) HKw.out hgl (Nat.le_refl _)

set_option maxRecDepth 100000 in
set_option maxHeartbeats 4000000 in
theorem inside_paren (L : List Tok) (g : Nat) (v : Value) (i d : Nat) (w : World) (h : Sits L w g v i d) (hl : L.length ≤ 10000) (hi : i < L.length) (hd : d < 12) (q : Nat) (hq : q < w.heap.size) (hqg : q ≠ g) (hqc : w.cell? ⟨q, 0, none⟩ = some (.pointer (some ⟨g, 0, none⟩))) (f : Nat) (hf : ChainSays L f) (r : Res) (hr : chainF L f 1 (i + 1) (d + 1) = some r) :
    Calls Tryz.prog 155 #[.pointer (some ⟨g, 0, none⟩), .func (.func 156) #[] #[.pointer (some ⟨q, 0, none⟩)]] w (GivesP L g v d (i + 1) (parenR L r) w) := by
  have HS := Lib.hid h
  have HF := Lib.hid hf
  have HR := Lib.hid hr
  obtain ⟨⟨hgl, c0, c1, c2, f1, f2⟩, _, _, _⟩ := h
  clear hf hr
  have hd2 : ((d : Int) == 12) = false := beq_eq_false_iff_ne.2 (by omega)
  go_enter Tryz.func155, Tryz.ntmps155
  go_wp2_with fail
  obtain ⟨Y, hY, hSY, hPY, hKY⟩ := in_world HS.out
  rw [← hY]
  have HSY := Lib.hid hSY
  have HPY := Lib.hid hPY
  have HKY := Lib.hid hKY
  have HQY : Hid (Y.cell? ⟨q, 0, none⟩ = some (.pointer (some ⟨g, 0, none⟩))) := Lib.hid ((hKY.cell hq hqg).trans hqc)
  clear hY hSY hPY hKY c0 c1 c2 f1 f2
  refine (paren_any L g v (i + 1) (d + 1) q Y HSY.out hl (by omega) (by have := HKY.out.size; omega) hqg HQY.out f HF.out r HR.out).mono ?_
  rintro e w1 ⟨P, A, n, c, hP, rfl, ho, hS1, hK1⟩
  have hyl := HPY.out.lt
  have HP := Lib.hid hP
  have HO := Lib.hid ho
  have HS1 := Lib.hid hS1
  have HK1 := Lib.hid hK1
  obtain ⟨⟨hg1, c0, c1, c2, f1, f2⟩, _, _, _⟩ := hS1
  obtain ⟨p0, p1, p2, p3, p4, p5, p6⟩ := HPY.out.keep (by omega) hK1
  clear hP ho hK1
  have hne : ¬ g = w.heap.size := by omega
  have hne2 : ¬ w.heap.size = g := by omega
  go_wp2_with fail
  refine bodyPost_ret (v := .tuple #[.agg #[.slice A n c, .int .i64 P.many, .int .i64 P.deep], .int .i64 (errOf (parenR L r))]) (by simp [results, Tryz.results155, go_sem, *]) rfl ?_
  refine GivesP.on (gives_end (w5 := w1.setCell ⟨g, 2, none⟩ (.int .i64 d)) (rb := w.heap.size) HP.out rfl (HO.out.keep (by omega) (Keeps.refl _ _).set |>.base (by omega)) (fun b hb => by have := (ownN_block HO.out b hb).1; omega) (HS1.out.set2 d) ((HKY.out.trans HK1.out).set) hgl (Nat.le_refl _)) ((Below.refl _ _).alloc (Nat.le_refl _) _)
end Go.Proofs.YtpeohfgadnfnpaaGreatDoor
