/-
  DERIVED. Texts of the walk, packed: PrimeC, PrimeD.
-/
import Derived.Test.YtpeohfgadnfnpaaGreatDoorQ39
/-
  DERIVED. Layer 3: the document's prime (leadlineref03) at a sign of one operand.
-/
namespace Go.Proofs.YtpeohfgadnfnpaaGreatDoor
open Go.RowKit

theorem Pq.grown {w w' : World} {g : Nat} {a b c d : Value} {r : Option Nat} (h : Pq w g a b c d) (hb : w.grownBy w' r) (hg : some g ≠ r) : Pq w' g a b c d := by
  have e : ∀ j, w'.cell? ⟨g, j, none⟩ = w.cell? ⟨g, j, none⟩ := fun j => World.cell?_of_block (hb.block g h.lt hg)
  have f : ∀ j, w'.frozen? ⟨g, j, none⟩ = w.frozen? ⟨g, j, none⟩ := fun j => World.frozen?_of_block (hb.block g h.lt hg)
  exact ⟨Nat.lt_of_lt_of_le h.lt hb.size, (e 0).trans h.c0, (e 1).trans h.c1, (e 2).trans h.c2, (e 3).trans h.c3, (f 0).trans h.f0, (f 1).trans h.f1, (f 2).trans h.f2, (f 3).trans h.f3⟩
/-- A new row of one node. -/
theorem one_new (B : Nat) (X : World) (x : Nod) (hB : B ≤ X.heap.size) : OwnN (X.alloc (.cells #[.int .i64 x.op, .int .i64 x.n, .string ⟨x.name.toArray⟩, .int .i64 x.pl] 33)) B (.slice (some ⟨X.heap.size, 0, none⟩) 1 1) [x] :=
  ⟨rfl, .inr ⟨X.heap.size, 1, _, rfl, hB, heap_alloc_new X _, Nat.le_refl _, by decide, rfl, rfl⟩⟩
theorem read_news0 {w : World} {g n c : Nat} {L : List Nod} (h : ReadN w (.slice (some ⟨g, 0, none⟩) n c) L) : ∀ j u, (cellsN L)[j]? = some u → w.cell? ⟨g, j, none⟩ = some u := by
  intro j u hu
  have h1 := read_news h j u hu
  have e : (⟨g, 0, none⟩ : Addr).add j = ⟨g, j, none⟩ := by
    unfold Addr.add
    by_cases h0 : j = 0
    · rw [if_pos h0, h0]
    · rw [if_neg h0]; simp
  rwa [e] at h1
theorem fine_err {L : List Tok} {i : Nat} {e : Int} {j : Nat} (h : Fine L i (.bad e j)) : (e != 0) = true := by
  obtain ⟨he, _⟩ := h
  rcases he with rfl | rfl | rfl <;> rfl

set_option maxRecDepth 100000 in
set_option maxHeartbeats 8000000 in
theorem prime_not (L : List Tok) (f i d : Nat) (v : Value) (w : World) (hf : PrimeSays L f) (r1 : Res) (h : ReadT w v L) (hl : L.length ≤ 10000) (hd : d < 12) (q1 : isB L i [33] = true) (hr1 : singleF L f (i + 1) (d + 1) = some r1) :
    Calls Tryz.prog 145 #[v, .int .i64 i, .int .i64 d] w (RGives L (unR (signN L 6 i) r1) w) := by
  have hi := isB_lt q1
  have hat : L[i]? = some L[i] := List.getElem?_eq_getElem hi
  generalize L[i] = t at *
  have HSN : Hid (signN L 6 i = ⟨4, 0, [], t.pl⟩) := Lib.hid (by unfold signN plAt; rw [sign6_not q1, hat]; rfl)
  have HTX := Lib.hid (isB_text q1 hat)
  have q3 : isB L i [40] = false := by
    cases h0 : isB L i [40] with
    | false => rfl
    | true => exact absurd (isB_one h0 q1) (by decide)
  have HFI := Lib.hid ((fine_all L f).2.2 _ _ _ hr1)
  have HR := Lib.hid h
  have HT := Lib.hid hat
  have HF := Lib.hid hf
  have HR1 := Lib.hid hr1
  obtain ⟨i0, hi0, hz0, hz1, hz2⟩ := info_parts info30
  have HZ := Lib.hid (show Tryz.prog.info? 33 = some i0 ∧ i0.zero = some (.agg #[.int .i64 0, .int .i64 0, .string ⟨#[]⟩, .int .i64 0]) ∧ i0.size = 4 ∧ i0.bytes = 40 from ⟨hi0, hz0, hz1, hz2⟩)
  obtain ⟨A, c, rfl, hc, hr⟩ := h
  obtain ⟨b, rfl, hbg, _⟩ := hr i t hat
  have f1 : ¬ (L.length : Int) ≤ (i : Int) := by omega
  have f2 : (i : Int) < (L.length : Int) := by omega
  have f3 : ((d : Int) == 12) = false := beq_eq_false_iff_ne.2 (by omega)
  have HB0 := Lib.hid ((Below.refl w.heap.size w).alloc (Nat.le_refl _) (.cells #[.slice none 0 0, .int .i64 0, .int .i64 0, .int .i64 0] 160))
  have HP0 := Lib.hid (pq_new w (.slice none 0 0) (.int .i64 0) (.int .i64 0) (.int .i64 0) 160)
  have HQ1 := Lib.hid q1
  have HQ3 := Lib.hid q3
  clear hr hat q3 hf hr1 hi0 hz0 hz1 hz2 q1
  go_enter Tryz.func145, Tryz.ntmps145
  go_wp2_with fail
  refine (ris_at HQ1.out _ _ (HR.out.on HB0.out)).mono ?_
  rintro e w0 ⟨rfl, hb⟩
  replace HB0 := Lib.hid (below_then HB0.out hb)
  replace HP0 := Lib.hid (HP0.out.on hb)
  clear hb
  go_wp2_with fail
  refine (ris_at HQ3.out _ _ (HR.out.on HB0.out)).mono ?_
  rintro e W ⟨rfl, hb⟩
  replace HB0 := Lib.hid (below_then HB0.out hb)
  replace HP0 := Lib.hid (HP0.out.on hb)
  clear hb
  go_wp2_with fail
  refine (HF.out (i + 1) (d + 1) r1 _ _ (by omega) HR1.out (HR.out.on HB0.out)).mono ?_
  rintro e w1 ⟨A1, n1, c1, rfl, ho, hb⟩
  have hWl := HP0.out.lt
  have HO : Hid (OwnN w1 (w.heap.size + 1) (.slice A1 n1 c1) (nodesOf r1)) := Lib.hid (ho.base hWl)
  replace HB0 := Lib.hid (below_then HB0.out hb)
  replace HP0 := Lib.hid (HP0.out.on hb)
  clear hb ho hWl
  cases r1 with
  | bad er j =>
    have HPL : Hid (plOf L (.bad er j) = plOf L (unR (signN L 6 i) (.bad er j))) := Lib.hid rfl
    have her := fine_err HFI.out
    generalize hpl : plOf L (.bad er j) = pl at *
    clear hpl
    simp only [toOf, errOf] at *
    go_upto_region 9 with (fail)
    have HBX := Lib.hid (HB0.out.alloc HB0.out.size (.cells #[.slice A1 n1 c1, .int .i64 ((0 : Nat) : Int), .int .i64 er, .int .i64 pl] 160))
    have hbx := (Below.refl w1.heap.size w1).alloc (Nat.le_refl _) (.cells #[.slice A1 n1 c1, .int .i64 ((0 : Nat) : Int), .int .i64 er, .int .i64 pl] 160)
    have HPX := Lib.hid (pq_new w1 (.slice A1 n1 c1) (.int .i64 ((0 : Nat) : Int)) (.int .i64 er) (.int .i64 pl) 160)
    have HPR := Lib.hid (HP0.out.on hbx)
    have HOX := Lib.hid (HO.out.on hbx)
    clear hbx
    generalize w1.alloc (.cells #[.slice A1 n1 c1, .int .i64 ((0 : Nat) : Int), .int .i64 er, .int .i64 pl] 160) = X at *
    obtain ⟨p0, p1, p2, p3, p4, p5, p6, p7, p8⟩ := HPR.out
    obtain ⟨z0, z1, z2, z3, z4, z5, z6, z7, z8⟩ := HPX.out
    go_wp2_with fail
    refine bodyPost_ret (v := .agg #[.slice A1 n1 c1, .int .i64 ((0 : Nat) : Int), .int .i64 er, .int .i64 pl]) (by simp [results, Tryz.results145, go_sem, *]) rfl ?_
    exact rgives_box (r := unR (signN L 6 i) (.bad er j)) (to := 0) HOX.out HBX.out rfl rfl HPL.out _ _ _ _
  | ok x to =>
    obtain ⟨_, g1, _, g2, _⟩ := HFI.out
    have hfl := flat_len x
    have hxp := size_pos x
    have ho' : OwnN w1 (w.heap.size + 1) (.slice A1 n1 c1) x.flat := HO.out
    have hn1 := ho'.read.len.1
    obtain ⟨g1', cap1, hsl⟩ := ownN_form ho' (by omega)
    simp only [Value.slice.injEq] at hsl
    obtain ⟨rfl, hdrop, rfl⟩ := hsl
    clear hdrop
    replace HO := Lib.hid ho'
    have hg1 := ownN_block ho' g1' rfl
    have hn2 : n1 ≤ 10000 := by omega
    have HN1 := Lib.hid hn1
    clear hn1 ho' hfl hxp
    simp only [toOf, errOf, plOf] at *
    go_upto_region 9 with (fail)
    have HBX := Lib.hid (HB0.out.alloc HB0.out.size (.cells #[.slice (some ⟨g1', 0, none⟩) n1 c1, .int .i64 (to : Int), .int .i64 0, .int .i64 0] 160))
    have hbx := (Below.refl w1.heap.size w1).alloc (Nat.le_refl _) (.cells #[.slice (some ⟨g1', 0, none⟩) n1 c1, .int .i64 (to : Int), .int .i64 0, .int .i64 0] 160)
    have HPX := Lib.hid (pq_new w1 (.slice (some ⟨g1', 0, none⟩) n1 c1) (.int .i64 (to : Int)) (.int .i64 0) (.int .i64 0) 160)
    have HPR := Lib.hid (HP0.out.on hbx)
    have HOX := Lib.hid (HO.out.on hbx)
    have HXZ : Hid ((w1.alloc (.cells #[.slice (some ⟨g1', 0, none⟩) n1 c1, .int .i64 (to : Int), .int .i64 0, .int .i64 0] 160)).heap.size = w1.heap.size + 1) := Lib.hid (by simp)
    clear hbx
    generalize w1.alloc (.cells #[.slice (some ⟨g1', 0, none⟩) n1 c1, .int .i64 (to : Int), .int .i64 0, .int .i64 0] 160) = X at *
    obtain ⟨A', c', hv', _, hr'⟩ := HR.out.on HBX.out
    obtain ⟨b', hA', hbg', x0, x1, x2, x3⟩ := hr' i t HT.out
    subst hA'
    obtain ⟨rfl, rfl⟩ : b' = b ∧ c' = c := by simp only [Value.slice.injEq, Option.some.injEq, Addr.mk.injEq] at hv'; exact ⟨hv'.1.1.symm, hv'.2.2.symm⟩
    rw [HTX.out] at x1
    replace x1 : X.cell? ⟨b', i * 4 + 1, none⟩ = some (.string ⟨#[33]⟩) := x1
    clear hv' hr' x0 x2
    obtain ⟨z0, z1, z2, z3, z4, z5, z6, z7, z8⟩ := HPX.out
    have hRl := HP0.out.lt
    have HNO := Lib.hid (one_new (w.heap.size + 1) X ⟨4, 0, [], t.pl⟩ (by have := HXZ.out; omega))
    have hbn := (Below.refl X.heap.size X).alloc (Nat.le_refl _) (.cells #[.int .i64 4, .int .i64 0, .string ⟨#[]⟩, .int .i64 t.pl] 33)
    have HRX := Lib.hid (HOX.out.read.on hbn)
    have HPX2 := Lib.hid (HPX.out.on hbn)
    have HPR2 := Lib.hid (HPR.out.on hbn)
    have HBN := Lib.hid (below_then HBX.out hbn)
    clear hbn
    go_wp2_with (at_builtin; refine wpList_append_own_at _ rfl (.tmp 67) (.tmp 69) 29 rfl (w.heap.size + 1) 33 i0 (.agg #[.int .i64 0, .int .i64 0, .string ⟨#[]⟩, .int .i64 0]) 4 40 Tryz.underlying29 HZ.out.1 HZ.out.2.1 HZ.out.2.2.1 HZ.out.2.2.2 rfl (by decide) (.slice (some ⟨X.heap.size, 0, none⟩) 1 1) 1 (cellsN [⟨4, 0, [], t.pl⟩]) rfl ?cO ⟨g1', 0, none⟩ n1 c1 (cellsN x.flat) rfl ?c0 ?c1 ?c2 ?c3 ?c4 ?c5 ?_)
    case cO => exact HNO.out
    case c0 => rw [cellsN_len, HN1.out]
    case c1 => exact read_news0 HRX.out
    case c2 => exact nod_one _
    case c3 => unfold maxLen; omega
    case c4 => omega
    case c5 => have := HXZ.out; first | omega | (simp; omega)
    intro v' w3 hown' hgrow _ hwhere
    have hxz := HXZ.out
    have PX := HPX2.out.grown hgrow (by show some w1.heap.size ≠ some X.heap.size; simp; omega)
    have PR := HPR2.out.grown hgrow (by show some w.heap.size ≠ some X.heap.size; simp; omega)
    have hOV : OwnN w3 (w.heap.size + 1) v' (⟨4, 0, [], t.pl⟩ :: x.flat) := by
      unfold OwnN
      rw [show ((⟨4, 0, [], t.pl⟩ : Nod) :: x.flat) = [⟨4, 0, [], t.pl⟩] ++ x.flat from rfl, cellsN_app, List.length_append, ← HN1.out]; exact hown'
    have hBV : Below w.heap.size w w3 := HBN.out.grown hgrow HBN.out.size (fun q hq => by
      have : X.heap.size = q := by simpa [Value.ownBlock] using hq
      omega)
    have hUV : ∀ q, v'.ownBlock = some q → q ≠ w1.heap.size := by
      intro q hq
      rcases hwhere with h | h
      · rw [h] at hq
        have : X.heap.size = q := by simpa [Value.ownBlock] using hq
        omega
      · rw [h] at hq
        have : (X.alloc (.cells #[.int .i64 4, .int .i64 0, .string ⟨#[]⟩, .int .i64 t.pl] 33)).heap.size = q := by simpa using hq
        simp at this
        omega
    obtain ⟨A5, n5, c5, rfl⟩ := own_slice hOV
    have hne : ¬ w1.heap.size = w.heap.size := by omega
    have hne2 : ¬ w.heap.size = w1.heap.size := by omega
    have HOV : Hid (OwnN (w3.setCell ⟨w1.heap.size, 0, none⟩ (.slice A5 n5 c5)) (w.heap.size + 1) (.slice A5 n5 c5) (⟨4, 0, [], t.pl⟩ :: x.flat)) := Lib.hid (hOV.away (g := w1.heap.size) hUV (Keeps.refl _ _).set)
    have HBV : Hid (Below w.heap.size w (w3.setCell ⟨w1.heap.size, 0, none⟩ (.slice A5 n5 c5))) := Lib.hid (hBV.setCell (by show w.heap.size ≤ w1.heap.size; omega) _)
    clear hOV hBV hUV hown' hgrow hwhere x1 x3 z0 z1 z2 z3 z4 z5 z6 z7 z8 hxz
    obtain ⟨z0, z1, z2, z3, z4, z5, z6, z7, z8⟩ := PX
    obtain ⟨p0, p1, p2, p3, p4, p5, p6, p7, p8⟩ := PR
    go_wp2_with fail
    refine bodyPost_ret (v := .agg #[.slice A5 n5 c5, .int .i64 (to : Int), .int .i64 0, .int .i64 0]) (by simp [results, Tryz.results145, go_sem, *]) rfl ?_
    exact rgives_box (r := unR (signN L 6 i) (.ok x to)) (to := to) (by rw [HSN.out]; exact HOV.out) HBV.out rfl rfl rfl _ _ _ _

set_option maxRecDepth 100000 in
set_option maxHeartbeats 8000000 in
theorem prime_neg (L : List Tok) (f i d : Nat) (v : Value) (w : World) (hf : PrimeSays L f) (r1 : Res) (h : ReadT w v L) (hl : L.length ≤ 10000) (hd : d < 12) (q1 : isB L i [33] = false) (q2 : isB L i [45] = true) (hr1 : singleF L f (i + 1) (d + 1) = some r1) :
    Calls Tryz.prog 145 #[v, .int .i64 i, .int .i64 d] w (RGives L (unR (signN L 6 i) r1) w) := by
  have hi := isB_lt q2
  have hat : L[i]? = some L[i] := List.getElem?_eq_getElem hi
  generalize L[i] = t at *
  have HSN : Hid (signN L 6 i = ⟨3, 0, [], t.pl⟩) := Lib.hid (by unfold signN plAt; rw [sign6_neg q2, hat]; rfl)
  have HTX := Lib.hid (isB_text q2 hat)
  have q3 : isB L i [40] = false := by
    cases h0 : isB L i [40] with
    | false => rfl
    | true => exact absurd (isB_one h0 q2) (by decide)
  have HFI := Lib.hid ((fine_all L f).2.2 _ _ _ hr1)
  have HR := Lib.hid h
  have HT := Lib.hid hat
  have HF := Lib.hid hf
  have HR1 := Lib.hid hr1
  obtain ⟨i0, hi0, hz0, hz1, hz2⟩ := info_parts info30
  have HZ := Lib.hid (show Tryz.prog.info? 33 = some i0 ∧ i0.zero = some (.agg #[.int .i64 0, .int .i64 0, .string ⟨#[]⟩, .int .i64 0]) ∧ i0.size = 4 ∧ i0.bytes = 40 from ⟨hi0, hz0, hz1, hz2⟩)
  obtain ⟨A, c, rfl, hc, hr⟩ := h
  obtain ⟨b, rfl, hbg, _⟩ := hr i t hat
  have f1 : ¬ (L.length : Int) ≤ (i : Int) := by omega
  have f2 : (i : Int) < (L.length : Int) := by omega
  have f3 : ((d : Int) == 12) = false := beq_eq_false_iff_ne.2 (by omega)
  have HB0 := Lib.hid ((Below.refl w.heap.size w).alloc (Nat.le_refl _) (.cells #[.slice none 0 0, .int .i64 0, .int .i64 0, .int .i64 0] 160))
  have HP0 := Lib.hid (pq_new w (.slice none 0 0) (.int .i64 0) (.int .i64 0) (.int .i64 0) 160)
  have HQ1 := Lib.hid q1
  have HQ2 := Lib.hid q2
  have HQ3 := Lib.hid q3
  clear hr hat q3 hf hr1 hi0 hz0 hz1 hz2 q1 q2
  go_enter Tryz.func145, Tryz.ntmps145
  go_wp2_with fail
  refine (ris_at HQ1.out _ _ (HR.out.on HB0.out)).mono ?_
  rintro e w0 ⟨rfl, hb⟩
  replace HB0 := Lib.hid (below_then HB0.out hb)
  replace HP0 := Lib.hid (HP0.out.on hb)
  clear hb
  go_wp2_with fail
  refine (ris_at HQ2.out _ _ (HR.out.on HB0.out)).mono ?_
  rintro e w0 ⟨rfl, hb⟩
  replace HB0 := Lib.hid (below_then HB0.out hb)
  replace HP0 := Lib.hid (HP0.out.on hb)
  clear hb
  go_wp2_with fail
  refine (ris_at HQ3.out _ _ (HR.out.on HB0.out)).mono ?_
  rintro e W ⟨rfl, hb⟩
  replace HB0 := Lib.hid (below_then HB0.out hb)
  replace HP0 := Lib.hid (HP0.out.on hb)
  clear hb
  go_wp2_with fail
  refine (HF.out (i + 1) (d + 1) r1 _ _ (by omega) HR1.out (HR.out.on HB0.out)).mono ?_
  rintro e w1 ⟨A1, n1, c1, rfl, ho, hb⟩
  have hWl := HP0.out.lt
  have HO : Hid (OwnN w1 (w.heap.size + 1) (.slice A1 n1 c1) (nodesOf r1)) := Lib.hid (ho.base hWl)
  replace HB0 := Lib.hid (below_then HB0.out hb)
  replace HP0 := Lib.hid (HP0.out.on hb)
  clear hb ho hWl
  cases r1 with
  | bad er j =>
    have HPL : Hid (plOf L (.bad er j) = plOf L (unR (signN L 6 i) (.bad er j))) := Lib.hid rfl
    have her := fine_err HFI.out
    generalize hpl : plOf L (.bad er j) = pl at *
    clear hpl
    simp only [toOf, errOf] at *
    go_upto_region 9 with (fail)
    have HBX := Lib.hid (HB0.out.alloc HB0.out.size (.cells #[.slice A1 n1 c1, .int .i64 ((0 : Nat) : Int), .int .i64 er, .int .i64 pl] 160))
    have hbx := (Below.refl w1.heap.size w1).alloc (Nat.le_refl _) (.cells #[.slice A1 n1 c1, .int .i64 ((0 : Nat) : Int), .int .i64 er, .int .i64 pl] 160)
    have HPX := Lib.hid (pq_new w1 (.slice A1 n1 c1) (.int .i64 ((0 : Nat) : Int)) (.int .i64 er) (.int .i64 pl) 160)
    have HPR := Lib.hid (HP0.out.on hbx)
    have HOX := Lib.hid (HO.out.on hbx)
    clear hbx
    generalize w1.alloc (.cells #[.slice A1 n1 c1, .int .i64 ((0 : Nat) : Int), .int .i64 er, .int .i64 pl] 160) = X at *
    obtain ⟨p0, p1, p2, p3, p4, p5, p6, p7, p8⟩ := HPR.out
    obtain ⟨z0, z1, z2, z3, z4, z5, z6, z7, z8⟩ := HPX.out
    go_wp2_with fail
    refine bodyPost_ret (v := .agg #[.slice A1 n1 c1, .int .i64 ((0 : Nat) : Int), .int .i64 er, .int .i64 pl]) (by simp [results, Tryz.results145, go_sem, *]) rfl ?_
    exact rgives_box (r := unR (signN L 6 i) (.bad er j)) (to := 0) HOX.out HBX.out rfl rfl HPL.out _ _ _ _
  | ok x to =>
    obtain ⟨_, g1, _, g2, _⟩ := HFI.out
    have hfl := flat_len x
    have hxp := size_pos x
    have ho' : OwnN w1 (w.heap.size + 1) (.slice A1 n1 c1) x.flat := HO.out
    have hn1 := ho'.read.len.1
    obtain ⟨g1', cap1, hsl⟩ := ownN_form ho' (by omega)
    simp only [Value.slice.injEq] at hsl
    obtain ⟨rfl, hdrop, rfl⟩ := hsl
    clear hdrop
    replace HO := Lib.hid ho'
    have hg1 := ownN_block ho' g1' rfl
    have hn2 : n1 ≤ 10000 := by omega
    have HN1 := Lib.hid hn1
    clear hn1 ho' hfl hxp
    simp only [toOf, errOf, plOf] at *
    go_upto_region 9 with (fail)
    have HBX := Lib.hid (HB0.out.alloc HB0.out.size (.cells #[.slice (some ⟨g1', 0, none⟩) n1 c1, .int .i64 (to : Int), .int .i64 0, .int .i64 0] 160))
    have hbx := (Below.refl w1.heap.size w1).alloc (Nat.le_refl _) (.cells #[.slice (some ⟨g1', 0, none⟩) n1 c1, .int .i64 (to : Int), .int .i64 0, .int .i64 0] 160)
    have HPX := Lib.hid (pq_new w1 (.slice (some ⟨g1', 0, none⟩) n1 c1) (.int .i64 (to : Int)) (.int .i64 0) (.int .i64 0) 160)
    have HPR := Lib.hid (HP0.out.on hbx)
    have HOX := Lib.hid (HO.out.on hbx)
    have HXZ : Hid ((w1.alloc (.cells #[.slice (some ⟨g1', 0, none⟩) n1 c1, .int .i64 (to : Int), .int .i64 0, .int .i64 0] 160)).heap.size = w1.heap.size + 1) := Lib.hid (by simp)
    clear hbx
    generalize w1.alloc (.cells #[.slice (some ⟨g1', 0, none⟩) n1 c1, .int .i64 (to : Int), .int .i64 0, .int .i64 0] 160) = X at *
    obtain ⟨A', c', hv', _, hr'⟩ := HR.out.on HBX.out
    obtain ⟨b', hA', hbg', x0, x1, x2, x3⟩ := hr' i t HT.out
    subst hA'
    obtain ⟨rfl, rfl⟩ : b' = b ∧ c' = c := by simp only [Value.slice.injEq, Option.some.injEq, Addr.mk.injEq] at hv'; exact ⟨hv'.1.1.symm, hv'.2.2.symm⟩
    rw [HTX.out] at x1
    replace x1 : X.cell? ⟨b', i * 4 + 1, none⟩ = some (.string ⟨#[45]⟩) := x1
    clear hv' hr' x0 x2
    obtain ⟨z0, z1, z2, z3, z4, z5, z6, z7, z8⟩ := HPX.out
    have hRl := HP0.out.lt
    have HNO := Lib.hid (one_new (w.heap.size + 1) X ⟨3, 0, [], t.pl⟩ (by have := HXZ.out; omega))
    have hbn := (Below.refl X.heap.size X).alloc (Nat.le_refl _) (.cells #[.int .i64 3, .int .i64 0, .string ⟨#[]⟩, .int .i64 t.pl] 33)
    have HRX := Lib.hid (HOX.out.read.on hbn)
    have HPX2 := Lib.hid (HPX.out.on hbn)
    have HPR2 := Lib.hid (HPR.out.on hbn)
    have HBN := Lib.hid (below_then HBX.out hbn)
    clear hbn
    go_wp2_with (at_builtin; refine wpList_append_own_at _ rfl (.tmp 67) (.tmp 69) 29 rfl (w.heap.size + 1) 33 i0 (.agg #[.int .i64 0, .int .i64 0, .string ⟨#[]⟩, .int .i64 0]) 4 40 Tryz.underlying29 HZ.out.1 HZ.out.2.1 HZ.out.2.2.1 HZ.out.2.2.2 rfl (by decide) (.slice (some ⟨X.heap.size, 0, none⟩) 1 1) 1 (cellsN [⟨3, 0, [], t.pl⟩]) rfl ?cO ⟨g1', 0, none⟩ n1 c1 (cellsN x.flat) rfl ?c0 ?c1 ?c2 ?c3 ?c4 ?c5 ?_)
    case cO => exact HNO.out
    case c0 => rw [cellsN_len, HN1.out]
    case c1 => exact read_news0 HRX.out
    case c2 => exact nod_one _
    case c3 => unfold maxLen; omega
    case c4 => omega
    case c5 => have := HXZ.out; first | omega | (simp; omega)
    intro v' w3 hown' hgrow _ hwhere
    have hxz := HXZ.out
    have PX := HPX2.out.grown hgrow (by show some w1.heap.size ≠ some X.heap.size; simp; omega)
    have PR := HPR2.out.grown hgrow (by show some w.heap.size ≠ some X.heap.size; simp; omega)
    have hOV : OwnN w3 (w.heap.size + 1) v' (⟨3, 0, [], t.pl⟩ :: x.flat) := by
      unfold OwnN
      rw [show ((⟨3, 0, [], t.pl⟩ : Nod) :: x.flat) = [⟨3, 0, [], t.pl⟩] ++ x.flat from rfl, cellsN_app, List.length_append, ← HN1.out]; exact hown'
    have hBV : Below w.heap.size w w3 := HBN.out.grown hgrow HBN.out.size (fun q hq => by
      have : X.heap.size = q := by simpa [Value.ownBlock] using hq
      omega)
    have hUV : ∀ q, v'.ownBlock = some q → q ≠ w1.heap.size := by
      intro q hq
      rcases hwhere with h | h
      · rw [h] at hq
        have : X.heap.size = q := by simpa [Value.ownBlock] using hq
        omega
      · rw [h] at hq
        have : (X.alloc (.cells #[.int .i64 3, .int .i64 0, .string ⟨#[]⟩, .int .i64 t.pl] 33)).heap.size = q := by simpa using hq
        simp at this
        omega
    obtain ⟨A5, n5, c5, rfl⟩ := own_slice hOV
    have hne : ¬ w1.heap.size = w.heap.size := by omega
    have hne2 : ¬ w.heap.size = w1.heap.size := by omega
    have HOV : Hid (OwnN (w3.setCell ⟨w1.heap.size, 0, none⟩ (.slice A5 n5 c5)) (w.heap.size + 1) (.slice A5 n5 c5) (⟨3, 0, [], t.pl⟩ :: x.flat)) := Lib.hid (hOV.away (g := w1.heap.size) hUV (Keeps.refl _ _).set)
    have HBV : Hid (Below w.heap.size w (w3.setCell ⟨w1.heap.size, 0, none⟩ (.slice A5 n5 c5))) := Lib.hid (hBV.setCell (by show w.heap.size ≤ w1.heap.size; omega) _)
    clear hOV hBV hUV hown' hgrow hwhere x1 x3 z0 z1 z2 z3 z4 z5 z6 z7 z8 hxz
    obtain ⟨z0, z1, z2, z3, z4, z5, z6, z7, z8⟩ := PX
    obtain ⟨p0, p1, p2, p3, p4, p5, p6, p7, p8⟩ := PR
    go_wp2_with fail
    refine bodyPost_ret (v := .agg #[.slice A5 n5 c5, .int .i64 (to : Int), .int .i64 0, .int .i64 0]) (by simp [results, Tryz.results145, go_sem, *]) rfl ?_
    exact rgives_box (r := unR (signN L 6 i) (.ok x to)) (to := to) (by rw [HSN.out]; exact HOV.out) HBV.out rfl rfl rfl _ _ _ _

end Go.Proofs.YtpeohfgadnfnpaaGreatDoor
/-
  DERIVED. Layer 3: the document's prime (leadlineref03) at a parenthesis, and as a whole.
-/
namespace Go.Proofs.YtpeohfgadnfnpaaGreatDoor
open Go.RowKit

set_option maxRecDepth 100000 in
set_option maxHeartbeats 8000000 in
theorem prime_open (L : List Tok) (f i d : Nat) (v : Value) (w : World) (hf : FloorSays L f) (r1 : Res) (h : ReadT w v L) (hl : L.length ≤ 10000) (hs : SmallT L) (hd : d < 12) (q3 : isB L i [40] = true) (hr1 : chainF L f 1 (i + 1) (d + 1) = some r1) :
    Calls Tryz.prog 145 #[v, .int .i64 i, .int .i64 d] w (RGives L (parenR L r1) w) := by
  have hi := isB_lt q3
  have q1 : isB L i [33] = false := by
    cases h0 : isB L i [33] with
    | false => rfl
    | true => exact absurd (isB_one h0 q3) (by decide)
  have q2 : isB L i [45] = false := by
    cases h0 : isB L i [45] with
    | false => rfl
    | true => exact absurd (isB_one h0 q3) (by decide)
  have HFI := Lib.hid ((fine_all L f).1 _ _ _ _ (by omega) (by omega) hr1)
  have HR := Lib.hid h
  have HF := Lib.hid hf
  have HS := Lib.hid hs
  have HR1 := Lib.hid hr1
  obtain ⟨A, c, rfl, hc, _⟩ := h
  have f1 : ¬ (L.length : Int) ≤ (i : Int) := by omega
  have f3 : ((d : Int) == 12) = false := beq_eq_false_iff_ne.2 (by omega)
  have HB0 := Lib.hid ((Below.refl w.heap.size w).alloc (Nat.le_refl _) (.cells #[.slice none 0 0, .int .i64 0, .int .i64 0, .int .i64 0] 160))
  have HP0 := Lib.hid (pq_new w (.slice none 0 0) (.int .i64 0) (.int .i64 0) (.int .i64 0) 160)
  have HQ1 := Lib.hid q1
  have HQ2 := Lib.hid q2
  have HQ3 := Lib.hid q3
  clear hs q1 q2 q3 hf hr1
  go_enter Tryz.func145, Tryz.ntmps145
  go_wp2_with fail
  refine (ris_at HQ1.out _ _ (HR.out.on HB0.out)).mono ?_
  rintro e w0 ⟨rfl, hb⟩
  replace HB0 := Lib.hid (below_then HB0.out hb)
  replace HP0 := Lib.hid (HP0.out.on hb)
  clear hb
  go_wp2_with fail
  refine (ris_at HQ2.out _ _ (HR.out.on HB0.out)).mono ?_
  rintro e w0 ⟨rfl, hb⟩
  replace HB0 := Lib.hid (below_then HB0.out hb)
  replace HP0 := Lib.hid (HP0.out.on hb)
  clear hb
  go_wp2_with fail
  refine (ris_at HQ3.out _ _ (HR.out.on HB0.out)).mono ?_
  rintro e W ⟨rfl, hb⟩
  replace HB0 := Lib.hid (below_then HB0.out hb)
  replace HP0 := Lib.hid (HP0.out.on hb)
  clear hb
  go_wp2_with fail
  refine (HF.out 0 (i + 1) (d + 1) r1 _ _ (by omega) (by omega) HR1.out (HR.out.on HB0.out)).mono ?_
  rintro e w1 ⟨A1, n1, c1, rfl, ho, hb⟩
  have hWl := HP0.out.lt
  have HO : Hid (OwnN w1 (w.heap.size + 1) (.slice A1 n1 c1) (nodesOf r1)) := Lib.hid (ho.base hWl)
  replace HB0 := Lib.hid (below_then HB0.out hb)
  replace HP0 := Lib.hid (HP0.out.on hb)
  clear hb ho hWl
  cases r1 with
  | bad er j =>
    have HPL : Hid (plOf L (.bad er j) = plOf L (parenR L (.bad er j))) := Lib.hid rfl
    have her := fine_err HFI.out
    generalize hpl : plOf L (.bad er j) = pl at *
    clear hpl
    simp only [toOf, errOf] at *
    go_upto_region 20 with (fail)
    have HBX := Lib.hid (HB0.out.alloc HB0.out.size (.cells #[.slice A1 n1 c1, .int .i64 ((0 : Nat) : Int), .int .i64 er, .int .i64 pl] 160))
    have hbx := (Below.refl w1.heap.size w1).alloc (Nat.le_refl _) (.cells #[.slice A1 n1 c1, .int .i64 ((0 : Nat) : Int), .int .i64 er, .int .i64 pl] 160)
    have HPX := Lib.hid (pq_new w1 (.slice A1 n1 c1) (.int .i64 ((0 : Nat) : Int)) (.int .i64 er) (.int .i64 pl) 160)
    have HPR := Lib.hid (HP0.out.on hbx)
    have HOX := Lib.hid (HO.out.on hbx)
    clear hbx
    generalize w1.alloc (.cells #[.slice A1 n1 c1, .int .i64 ((0 : Nat) : Int), .int .i64 er, .int .i64 pl] 160) = X at *
    obtain ⟨p0, p1, p2, p3, p4, p5, p6, p7, p8⟩ := HPR.out
    obtain ⟨z0, z1, z2, z3, z4, z5, z6, z7, z8⟩ := HPX.out
    go_wp2_with fail
    refine bodyPost_ret (v := .agg #[.slice A1 n1 c1, .int .i64 ((0 : Nat) : Int), .int .i64 er, .int .i64 pl]) (by simp [results, Tryz.results145, go_sem, *]) rfl ?_
    exact rgives_box (r := parenR L (.bad er j)) (to := 0) HOX.out HBX.out rfl rfl HPL.out _ _ _ _
  | ok x to =>
    obtain ⟨_, g1, _⟩ := HFI.out
    simp only [toOf, errOf, plOf] at *
    go_upto_region 20 with (fail)
    have HBX := Lib.hid (HB0.out.alloc HB0.out.size (.cells #[.slice A1 n1 c1, .int .i64 (to : Int), .int .i64 0, .int .i64 0] 160))
    have hbx := (Below.refl w1.heap.size w1).alloc (Nat.le_refl _) (.cells #[.slice A1 n1 c1, .int .i64 (to : Int), .int .i64 0, .int .i64 0] 160)
    have HPX := Lib.hid (pq_new w1 (.slice A1 n1 c1) (.int .i64 (to : Int)) (.int .i64 0) (.int .i64 0) 160)
    have HPR := Lib.hid (HP0.out.on hbx)
    have HOX := Lib.hid (HO.out.on hbx)
    have hRl := HP0.out.lt
    clear hbx
    generalize w1.alloc (.cells #[.slice A1 n1 c1, .int .i64 (to : Int), .int .i64 0, .int .i64 0] 160) = X at *
    have hpx := HPX.out
    obtain ⟨z0, z1, z2, z3, z4, z5, z6, z7, z8⟩ := hpx
    cases q4 : isB L to [41] with
    | false =>
      have HQ4 := Lib.hid q4
      have HX := Lib.hid (paren_no (x := x) q4)
      obtain ⟨ee, hee⟩ : ∃ ee : Int, (if L.length ≤ to then (6 : Int) else 5) = ee := ⟨_, rfl⟩
      have HEE := Lib.hid hee
      have HW : Hid (wrongV L to = .bad ee to) := Lib.hid (by unfold wrongV; rw [hee])
      clear q4 hee
      go_wp2_with fail
      refine (ris_at HQ4.out _ _ (HR.out.on HBX.out)).mono ?_
      rintro e w2 ⟨rfl, hb⟩
      replace HBX := Lib.hid (below_then HBX.out hb)
      replace HPR := Lib.hid (HPR.out.on hb)
      replace HPX := Lib.hid (HPX.out.on hb)
      clear hb z0 z1 z2 z3 z4 z5 z6 z7 z8
      have hpx := HPX.out
      obtain ⟨z0, z1, z2, z3, z4, z5, z6, z7, z8⟩ := hpx
      go_wp2_with fail
      refine (rbad_at HEE.out _ _ (HR.out.on HBX.out) hl HS.out).mono ?_
      rintro e w3 ⟨rfl, hb⟩
      replace HBX := Lib.hid (below_then HBX.out hb)
      obtain ⟨p0, p1, p2, p3, p4, p5, p6, p7, p8⟩ := HPR.out.on hb
      have HPL : Hid (placeV L to = plOf L (.bad ee to)) := Lib.hid rfl
      generalize placeV L to = pl at *
      clear hb z0 z1 z2 z3 z4 z5 z6 z7 z8
      go_wp2_with fail
      refine bodyPost_ret (v := .agg #[.slice none 0 0, .int .i64 0, .int .i64 ee, .int .i64 pl]) (by simp [results, Tryz.results145, go_sem, *]) rfl ?_
      rw [HX.out, HW.out]
      exact rgives_box (r := .bad ee to) (to := 0) (ownN_nil _ _) HBX.out rfl rfl HPL.out _ _ _ _
    | true =>
      have HQ4 := Lib.hid q4
      have HX := Lib.hid (paren_yes (x := x) q4)
      have hlt := isB_lt q4
      clear q4
      go_wp2_with fail
      refine (ris_at HQ4.out _ _ (HR.out.on HBX.out)).mono ?_
      rintro e w2 ⟨rfl, hb⟩
      have HOY : Hid (OwnN (w2.setCell ⟨w1.heap.size, 1, none⟩ (.int .i64 ((to : Int) + 1))) (w.heap.size + 1) (.slice A1 n1 c1) (nodesOf (.ok x to))) := Lib.hid ((HOX.out.on hb).away (g := w1.heap.size) (fun q hq => by have := (ownN_block HO.out q hq).2; omega) (Keeps.refl _ _).set)
      replace HBX := Lib.hid ((below_then HBX.out hb).setCell (p := ⟨w1.heap.size, 1, none⟩) (by show w.heap.size ≤ w1.heap.size; omega) (.int .i64 ((to : Int) + 1)))
      have hne : ¬ w1.heap.size = w.heap.size := by omega
      have hne2 : ¬ w.heap.size = w1.heap.size := by omega
      obtain ⟨p0, p1, p2, p3, p4, p5, p6, p7, p8⟩ := HPR.out.on hb
      replace HPX := Lib.hid (HPX.out.on hb)
      clear hb z0 z1 z2 z3 z4 z5 z6 z7 z8
      obtain ⟨z0, z1, z2, z3, z4, z5, z6, z7, z8⟩ := HPX.out
      go_wp2_with fail
      refine bodyPost_ret (v := .agg #[.slice A1 n1 c1, .int .i64 ((to + 1 : Nat) : Int), .int .i64 0, .int .i64 0]) (by simp [results, Tryz.results145, go_sem, *]) rfl ?_
      rw [HX.out]
      exact rgives_box (r := .ok x (to + 1)) (to := to + 1) HOY.out HBX.out rfl rfl rfl _ _ _ _

theorem prime_step (L : List Tok) (f : Nat) (hl : L.length ≤ 10000) (hs : SmallT L) (hc : FloorSays L f) (hp : PrimeSays L f) : PrimeSays L (f + 1) := by
  intro i d r v w hd hr h
  by_cases hi : L.length ≤ i
  · rw [single_out hr hi]
    exact prime_out L i d v w h hl hs hi
  · have ht : L[i]? = some L[i] := List.getElem?_eq_getElem (by omega)
    cases q3 : isB L i [40] with
    | true =>
      obtain ⟨h1, h2⟩ := single_open hr q3
      by_cases h12 : d = 12
      · rw [h1 h12, h12]
        exact prime_deep L i v w h hl hs (by omega) (.inr (.inr q3))
      · obtain ⟨r1, hr1, rfl⟩ := h2 h12
        exact prime_open L f i d v w hc r1 h hl hs (by omega) q3 hr1
    | false =>
      cases q1 : isB L i [33] with
      | true =>
        obtain ⟨h1, h2⟩ := single_sign hr q1 (.inr rfl)
        by_cases h12 : d = 12
        · rw [h1 h12, h12]
          exact prime_deep L i v w h hl hs (by omega) (.inl q1)
        · obtain ⟨r1, hr1, rfl⟩ := h2 h12
          exact prime_not L f i d v w hp r1 h hl (by omega) q1 hr1
      | false =>
        cases q2 : isB L i [45] with
        | true =>
          obtain ⟨h1, h2⟩ := single_sign hr q2 (.inl rfl)
          by_cases h12 : d = 12
          · rw [h1 h12, h12]
            exact prime_deep L i v w h hl hs (by omega) (.inr (.inl q2))
          · obtain ⟨r1, hr1, rfl⟩ := h2 h12
            exact prime_neg L f i d v w hp r1 h hl (by omega) q1 q2 hr1
        | false =>
          rw [single_rest hr q3 q2 q1 ht]
          exact prime_leaf L i d v w _ h hl hs ht q1 q2 q3
end Go.Proofs.YtpeohfgadnfnpaaGreatDoor
