/-
  DERIVED. Layer 3: the document's prime (leadlineref03) at a parenthesis, and as a whole.
-/
import Derived.Test.YtcmbcbdijmknnaaDoorPrimeC
namespace Go.Proofs.YtcmbcbdijmknnaaDoor
open Go.RowKit

set_option maxRecDepth 100000 in
set_option maxHeartbeats 8000000 in
theorem prime_open (L : List Tok) (f i d : Nat) (v : Value) (w : World) (hf : FloorSays L f) (r1 : Res) (h : ReadT w v L) (hl : L.length ≤ 10000) (hs : SmallT L) (hd : d < 12) (q3 : isB L i [40] = true) (hr1 : chainF L f 1 (i + 1) (d + 1) = some r1) :
    Calls Tryd.prog 50 #[v, .int .i64 i, .int .i64 d] w (RGives L (parenR L r1) w) := by
  have hi := isB_lt q3
  have q1 : isB L i [33] = false := by
    cases h0 : isB L i [33] with
    | false => rfl
    | true => exact absurd (isB_one h0 q3) (by decide)
  have q2 : isB L i [45] = false := by
    cases h0 : isB L i [45] with
    | false => rfl
    | true => exact absurd (isB_one h0 q3) (by decide)
  have HFI := Lib.hid ((fine_all L f).1 _ _ _ _ (by omega) (by omega) hr1)
  have HR := Lib.hid h
  have HF := Lib.hid hf
  have HS := Lib.hid hs
  have HR1 := Lib.hid hr1
  obtain ⟨A, c, rfl, hc, _⟩ := h
  have f1 : ¬ (L.length : Int) ≤ (i : Int) := by omega
  have f3 : ((d : Int) == 12) = false := beq_eq_false_iff_ne.2 (by omega)
  have HB0 := Lib.hid ((Below.refl w.heap.size w).alloc (Nat.le_refl _) (.cells #[.slice none 0 0, .int .i64 0, .int .i64 0, .int .i64 0] 53))
  have HP0 := Lib.hid (pq_new w (.slice none 0 0) (.int .i64 0) (.int .i64 0) (.int .i64 0) 53)
  have HQ1 := Lib.hid q1
  have HQ2 := Lib.hid q2
  have HQ3 := Lib.hid q3
  clear hs q1 q2 q3 hf hr1
  go_enter Tryd.func50, Tryd.ntmps50
  go_wp2_with fail
  refine (ris_at HQ1.out _ _ (HR.out.on HB0.out)).mono ?_
  rintro e w0 ⟨rfl, hb⟩
  replace HB0 := Lib.hid (below_then HB0.out hb)
  replace HP0 := Lib.hid (HP0.out.on hb)
  clear hb
  go_wp2_with fail
  refine (ris_at HQ2.out _ _ (HR.out.on HB0.out)).mono ?_
  rintro e w0 ⟨rfl, hb⟩
  replace HB0 := Lib.hid (below_then HB0.out hb)
  replace HP0 := Lib.hid (HP0.out.on hb)
  clear hb
  go_wp2_with fail
  refine (ris_at HQ3.out _ _ (HR.out.on HB0.out)).mono ?_
  rintro e W ⟨rfl, hb⟩
  replace HB0 := Lib.hid (below_then HB0.out hb)
  replace HP0 := Lib.hid (HP0.out.on hb)
  clear hb
  go_wp2_with fail
  refine (HF.out 0 (i + 1) (d + 1) r1 _ _ (by omega) (by omega) HR1.out (HR.out.on HB0.out)).mono ?_
  rintro e w1 ⟨A1, n1, c1, rfl, ho, hb⟩
  have hWl := HP0.out.lt
  have HO : Hid (OwnN w1 (w.heap.size + 1) (.slice A1 n1 c1) (nodesOf r1)) := Lib.hid (ho.base hWl)
  replace HB0 := Lib.hid (below_then HB0.out hb)
  replace HP0 := Lib.hid (HP0.out.on hb)
  clear hb ho hWl
  cases r1 with
  | bad er j =>
    have HPL : Hid (plOf L (.bad er j) = plOf L (parenR L (.bad er j))) := Lib.hid rfl
    have her := fine_err HFI.out
    generalize hpl : plOf L (.bad er j) = pl at *
    clear hpl
    simp only [toOf, errOf] at *
    go_upto_region 20 with (fail)
    have HBX := Lib.hid (HB0.out.alloc HB0.out.size (.cells #[.slice A1 n1 c1, .int .i64 ((0 : Nat) : Int), .int .i64 er, .int .i64 pl] 53))
    have hbx := (Below.refl w1.heap.size w1).alloc (Nat.le_refl _) (.cells #[.slice A1 n1 c1, .int .i64 ((0 : Nat) : Int), .int .i64 er, .int .i64 pl] 53)
    have HPX := Lib.hid (pq_new w1 (.slice A1 n1 c1) (.int .i64 ((0 : Nat) : Int)) (.int .i64 er) (.int .i64 pl) 53)
    have HPR := Lib.hid (HP0.out.on hbx)
    have HOX := Lib.hid (HO.out.on hbx)
    clear hbx
    generalize w1.alloc (.cells #[.slice A1 n1 c1, .int .i64 ((0 : Nat) : Int), .int .i64 er, .int .i64 pl] 53) = X at *
    obtain ⟨p0, p1, p2, p3, p4, p5, p6, p7, p8⟩ := HPR.out
    obtain ⟨z0, z1, z2, z3, z4, z5, z6, z7, z8⟩ := HPX.out
    go_wp2_with fail
    refine bodyPost_ret (v := .agg #[.slice A1 n1 c1, .int .i64 ((0 : Nat) : Int), .int .i64 er, .int .i64 pl]) (by simp [results, Tryd.results50, go_sem, *]) rfl ?_
    exact rgives_box (r := parenR L (.bad er j)) (to := 0) HOX.out HBX.out rfl rfl HPL.out _ _ _ _
  | ok x to =>
    obtain ⟨_, g1, _⟩ := HFI.out
    simp only [toOf, errOf, plOf] at *
    go_upto_region 20 with (fail)
    have HBX := Lib.hid (HB0.out.alloc HB0.out.size (.cells #[.slice A1 n1 c1, .int .i64 (to : Int), .int .i64 0, .int .i64 0] 53))
    have hbx := (Below.refl w1.heap.size w1).alloc (Nat.le_refl _) (.cells #[.slice A1 n1 c1, .int .i64 (to : Int), .int .i64 0, .int .i64 0] 53)
    have HPX := Lib.hid (pq_new w1 (.slice A1 n1 c1) (.int .i64 (to : Int)) (.int .i64 0) (.int .i64 0) 53)
    have HPR := Lib.hid (HP0.out.on hbx)
    have HOX := Lib.hid (HO.out.on hbx)
    have hRl := HP0.out.lt
    clear hbx
    generalize w1.alloc (.cells #[.slice A1 n1 c1, .int .i64 (to : Int), .int .i64 0, .int .i64 0] 53) = X at *
    have hpx := HPX.out
    obtain ⟨z0, z1, z2, z3, z4, z5, z6, z7, z8⟩ := hpx
    cases q4 : isB L to [41] with
    | false =>
      have HQ4 := Lib.hid q4
      have HX := Lib.hid (paren_no (x := x) q4)
      obtain ⟨ee, hee⟩ : ∃ ee : Int, (if L.length ≤ to then (6 : Int) else 5) = ee := ⟨_, rfl⟩
      have HEE := Lib.hid hee
      have HW : Hid (wrongV L to = .bad ee to) := Lib.hid (by unfold wrongV; rw [hee])
      clear q4 hee
      go_wp2_with fail
      refine (ris_at HQ4.out _ _ (HR.out.on HBX.out)).mono ?_
      rintro e w2 ⟨rfl, hb⟩
      replace HBX := Lib.hid (below_then HBX.out hb)
      replace HPR := Lib.hid (HPR.out.on hb)
      replace HPX := Lib.hid (HPX.out.on hb)
      clear hb z0 z1 z2 z3 z4 z5 z6 z7 z8
      have hpx := HPX.out
      obtain ⟨z0, z1, z2, z3, z4, z5, z6, z7, z8⟩ := hpx
      go_wp2_with fail
      refine (rbad_at HEE.out _ _ (HR.out.on HBX.out) hl HS.out).mono ?_
      rintro e w3 ⟨rfl, hb⟩
      replace HBX := Lib.hid (below_then HBX.out hb)
      obtain ⟨p0, p1, p2, p3, p4, p5, p6, p7, p8⟩ := HPR.out.on hb
      have HPL : Hid (placeV L to = plOf L (.bad ee to)) := Lib.hid rfl
      generalize placeV L to = pl at *
      clear hb z0 z1 z2 z3 z4 z5 z6 z7 z8
      go_wp2_with fail
      refine bodyPost_ret (v := .agg #[.slice none 0 0, .int .i64 0, .int .i64 ee, .int .i64 pl]) (by simp [results, Tryd.results50, go_sem, *]) rfl ?_
      rw [HX.out, HW.out]
      exact rgives_box (r := .bad ee to) (to := 0) (ownN_nil _ _) HBX.out rfl rfl HPL.out _ _ _ _
    | true =>
      have HQ4 := Lib.hid q4
      have HX := Lib.hid (paren_yes (x := x) q4)
      have hlt := isB_lt q4
      clear q4
      go_wp2_with fail
      refine (ris_at HQ4.out _ _ (HR.out.on HBX.out)).mono ?_
      rintro e w2 ⟨rfl, hb⟩
      have HOY : Hid (OwnN (w2.setCell ⟨w1.heap.size, 1, none⟩ (.int .i64 ((to : Int) + 1))) (w.heap.size + 1) (.slice A1 n1 c1) (nodesOf (.ok x to))) := Lib.hid ((HOX.out.on hb).away (g := w1.heap.size) (fun q hq => by have := (ownN_block HO.out q hq).2; omega) (Keeps.refl _ _).set)
      replace HBX := Lib.hid ((below_then HBX.out hb).setCell (p := ⟨w1.heap.size, 1, none⟩) (by show w.heap.size ≤ w1.heap.size; omega) (.int .i64 ((to : Int) + 1)))
      have hne : ¬ w1.heap.size = w.heap.size := by omega
      have hne2 : ¬ w.heap.size = w1.heap.size := by omega
      obtain ⟨p0, p1, p2, p3, p4, p5, p6, p7, p8⟩ := HPR.out.on hb
      replace HPX := Lib.hid (HPX.out.on hb)
      clear hb z0 z1 z2 z3 z4 z5 z6 z7 z8
      obtain ⟨z0, z1, z2, z3, z4, z5, z6, z7, z8⟩ := HPX.out
      go_wp2_with fail
      refine bodyPost_ret (v := .agg #[.slice A1 n1 c1, .int .i64 ((to + 1 : Nat) : Int), .int .i64 0, .int .i64 0]) (by simp [results, Tryd.results50, go_sem, *]) rfl ?_
      rw [HX.out]
      exact rgives_box (r := .ok x (to + 1)) (to := to + 1) HOY.out HBX.out rfl rfl rfl _ _ _ _

theorem prime_step (L : List Tok) (f : Nat) (hl : L.length ≤ 10000) (hs : SmallT L) (hc : FloorSays L f) (hp : PrimeSays L f) : PrimeSays L (f + 1) := by
  intro i d r v w hd hr h
  by_cases hi : L.length ≤ i
  · rw [single_out hr hi]
    exact prime_out L i d v w h hl hs hi
  · have ht : L[i]? = some L[i] := List.getElem?_eq_getElem (by omega)
    cases q3 : isB L i [40] with
    | true =>
      obtain ⟨h1, h2⟩ := single_open hr q3
      by_cases h12 : d = 12
      · rw [h1 h12, h12]
        exact prime_deep L i v w h hl hs (by omega) (.inr (.inr q3))
      · obtain ⟨r1, hr1, rfl⟩ := h2 h12
        exact prime_open L f i d v w hc r1 h hl hs (by omega) q3 hr1
    | false =>
      cases q1 : isB L i [33] with
      | true =>
        obtain ⟨h1, h2⟩ := single_sign hr q1 (.inr rfl)
        by_cases h12 : d = 12
        · rw [h1 h12, h12]
          exact prime_deep L i v w h hl hs (by omega) (.inl q1)
        · obtain ⟨r1, hr1, rfl⟩ := h2 h12
          exact prime_not L f i d v w hp r1 h hl (by omega) q1 hr1
      | false =>
        cases q2 : isB L i [45] with
        | true =>
          obtain ⟨h1, h2⟩ := single_sign hr q2 (.inl rfl)
          by_cases h12 : d = 12
          · rw [h1 h12, h12]
            exact prime_deep L i v w h hl hs (by omega) (.inr (.inl q2))
          · obtain ⟨r1, hr1, rfl⟩ := h2 h12
            exact prime_neg L f i d v w hp r1 h hl (by omega) q1 q2 hr1
        | false =>
          rw [single_rest hr q3 q2 q1 ht]
          exact prime_leaf L i d v w _ h hl hs ht q1 q2 q3
end Go.Proofs.YtcmbcbdijmknnaaDoor
