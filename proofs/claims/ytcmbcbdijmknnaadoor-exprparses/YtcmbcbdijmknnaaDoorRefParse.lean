/-
  DERIVED. Layer 3: the contract of the document's Parse (leadlineref03): the expression that begins at any token.
-/
import Derived.Test.YtcmbcbdijmknnaaDoorFloorB
import Derived.Test.YtcmbcbdijmknnaaDoorParse
namespace Go.Proofs.YtcmbcbdijmknnaaDoor
open Go.RowKit

theorem floor_step (L : List Tok) (f : Nat) (hl : L.length ≤ 10000) (hc : ∀ f', f' ≤ f → FloorSays L f') (hs : PrimeSays L f) : FloorSays L (f + 1) := by
  intro n i d r v w hn hd hr h
  rw [chainF] at hr
  by_cases h6 : n = 5
  · subst h6
    rw [if_pos rfl] at hr
    exact floor_five L f hs i d r v w hd hr h
  · rw [if_neg (by omega)] at hr
    cases hch : chainF L f (n + 1 + 1) i d with
    | none => rw [hch] at hr; cases hr
    | some r1 =>
      rw [hch] at hr
      cases r1 with
      | ok x to => exact floor_loop L f n i d hc x to r v w hl (by omega) hd hch hr h
      | bad e j =>
        simp at hr
        subst hr
        exact floor_bad L f n i d (hc f (Nat.le_refl _)) e j v w (by omega) hd hch h
theorem rsays_all (L : List Tok) (hl : L.length ≤ 10000) (hsm : SmallT L) : ∀ f, (∀ f', f' ≤ f → FloorSays L f') ∧ PrimeSays L f := by
  intro f
  induction f with
  | zero =>
    refine ⟨fun f' hf' => ?_, fun i d r v w _ hr => by simp [singleF] at hr⟩
    obtain rfl : f' = 0 := by omega
    exact fun n i d r v w _ _ hr => by simp [chainF] at hr
  | succ f ih =>
    refine ⟨fun f' hf' => ?_, prime_step L f hl hsm (ih.1 f (Nat.le_refl _)) ih.2⟩
    by_cases e : f' = f + 1
    · subst e; exact floor_step L f hl ih.1 ih.2
    · exact ih.1 f' (by omega)

set_option maxRecDepth 100000 in
set_option maxHeartbeats 4000000 in
theorem rparse_any (v : Value) (L : List Tok) (i : Int) (w : World) (h : ReadT w v L) (hl : L.length ≤ 10000) (hsm : SmallT L) : Calls Tryd.prog 12 #[v, .int .i64 i] w (GivesE (exprV L i) w) := by
  by_cases hi : i < 0
  · have HQ : Hid (exprV L i = ⟨[], 0, 1, 0⟩) := Lib.hid (by unfold exprV; rw [if_pos hi])
    clear h
    go_enter Tryd.func12, Tryd.ntmps12
    go_wp2_with fail
    refine bodyPost_ret (v := .tuple #[.slice none 0 0, .int .i64 0, .int .i64 1, .int .i64 (0)]) (by simp [results, Tryd.results12, go_sem]) rfl ?_
    exact givesE_of (q' := ⟨[], 0, 1, 0⟩) rfl HQ.out (ownN_nil _ _) (Below.refl _ _)
  · obtain ⟨k, rfl⟩ : ∃ k : Nat, i = k := ⟨i.toNat, by omega⟩
    have HC := Lib.hid (((rsays_all L hl hsm (20 * (L.length - k) + 12)).1 _ (Nat.le_refl _)) 0 k 0 (parseR L k) v w (by omega) (by omega) (parseR_chain L k) h)
    have HF := Lib.hid (parseR_fine L k)
    have HX := Lib.hid (exprV_nat L k)
    have HR := Lib.hid h
    obtain ⟨A0, cc0, rfl, _, _⟩ := h
    clear hsm hi
    generalize parseR L k = r at *
    go_enter Tryd.func12, Tryd.ntmps12
    go_wp2_with fail
    refine HC.out.mono ?_
    rintro e w1 ⟨A, n, c, rfl, ho, hb⟩
    have HO := Lib.hid ho
    have HB := Lib.hid hb
    clear ho hb HC
    cases r with
    | bad er j =>
      have her := fine_err HF.out
      have HX2 : Hid (exprV L k = ⟨[], 0, er, placeV L j⟩) := Lib.hid HX.out
      have HPL : Hid (plOf L (.bad er j) = placeV L j) := Lib.hid rfl
      generalize hpl : plOf L (.bad er j) = pl at *
      clear hpl
      simp only [toOf, errOf] at *
      have HB2 := Lib.hid (HB.out.alloc HB.out.size (.cells #[.slice A n c, .int .i64 ((0 : Nat) : Int), .int .i64 er, .int .i64 pl] 53))
      go_wp2_with fail
      go_quiet (fail)
      go_wp2_with fail
      refine bodyPost_ret (v := .tuple #[.slice none 0 0, .int .i64 0, .int .i64 er, .int .i64 pl]) (by simp [results, Tryd.results12, go_sem]) rfl ?_
      rw [HPL.out]
      exact givesE_of (q' := ⟨[], 0, er, placeV L j⟩) rfl HX2.out (ownN_nil _ _) (by rw [← HPL.out]; exact HB2.out.trans (below_anyN _ _ _))
    | ok x to =>
      obtain ⟨h1, h2, h3, h4, h5⟩ := HF.out
      have hfl := flat_len x
      have hdz := deep_size x
      have HOK := Lib.hid h3
      have ho' : OwnN w1 w.heap.size (.slice A n c) x.flat := HO.out
      have hn := ho'.read.len.1
      have hat : L[k]? = some L[k] := List.getElem?_eq_getElem (by omega)
      generalize L[k] = t at *
      have HPL := Lib.hid (place_in hat)
      simp only [toOf, errOf, plOf] at *
      have HB2 := Lib.hid (HB.out.alloc HB.out.size (.cells #[.slice A n c, .int .i64 (to : Int), .int .i64 0, .int .i64 0] 53))
      have hbx := (Below.refl w1.heap.size w1).alloc (Nat.le_refl _) (.cells #[.slice A n c, .int .i64 (to : Int), .int .i64 0, .int .i64 0] 53)
      have HOX := Lib.hid (ho'.on hbx)
      have HPX := Lib.hid (pq_new w1 (.slice A n c) (.int .i64 (to : Int)) (.int .i64 0) (.int .i64 0) 53)
      obtain ⟨A', c', hv', _, hr'⟩ := HR.out.on HB2.out
      obtain ⟨b', hA', hbg', x0, x1, x2, x3⟩ := hr' k t hat
      subst hA'
      simp only [Value.slice.injEq] at hv'
      obtain ⟨rfl, hdrop, rfl⟩ := hv'
      clear hdrop hr' x0 x1 x2
      have hki : (k : Int) < (L.length : Int) := by omega
      have HN := Lib.hid hn
      have hns : n ≤ x.size ∧ x.size ≤ n := by omega
      have HD : Hid (x.flat.drop 0 = x.flat ++ []) := Lib.hid (by simp)
      have hfl2 : x.flat.length ≤ 10000 := by omega
      clear h5 hat hn hfl ho' hbx h3
      go_upto_region 4 with (fail)
      generalize w1.alloc (.cells #[.slice A n c, .int .i64 (to : Int), .int .i64 0, .int .i64 0] 53) = X at *
      obtain ⟨z0, z1, z2, z3, z4, z5, z6, z7, z8⟩ := HPX.out
      go_wp2_with fail
      refine (rdeep_any x.size x _ x.flat 0 [] _ (Nat.le_refl _) HOK.out HOX.out.read hfl2 HD.out).mono ?_
      rintro e _ ⟨rfl, rfl⟩
      by_cases hd : 12 < x.deep
      · have HX2 : Hid (exprV L k = ⟨[], 0, 7, t.pl⟩) := Lib.hid (by rw [HX.out, exprR_deep hd, HPL.out])
        have hdi : (12 : Int) < (x.deep : Int) := by omega
        clear hns
        go_wp2_with fail
        go_quiet (fail)
        go_wp2_with fail
        refine bodyPost_ret (v := .tuple #[.slice none 0 0, .int .i64 0, .int .i64 7, .int .i64 t.pl]) (by simp [results, Tryd.results12, go_sem]) rfl ?_
        exact givesE_of (q' := ⟨[], 0, 7, t.pl⟩) rfl HX2.out (ownN_nil _ _) (HB2.out.trans (below_anyN _ _ _))
      · have hdi : ¬ (12 : Int) < (x.deep : Int) := by omega
        by_cases hs : 40 < x.size
        · have HX2 : Hid (exprV L k = ⟨[], 0, 2, t.pl⟩) := Lib.hid (by rw [HX.out, exprR_big hd hs, HPL.out])
          have hsi : (40 : Int) < (n : Int) := by omega
          clear hns
          go_wp2_with fail
          go_quiet (fail)
          go_wp2_with fail
          refine bodyPost_ret (v := .tuple #[.slice none 0 0, .int .i64 0, .int .i64 2, .int .i64 t.pl]) (by simp [results, Tryd.results12, go_sem]) rfl ?_
          exact givesE_of (q' := ⟨[], 0, 2, t.pl⟩) rfl HX2.out (ownN_nil _ _) (HB2.out.trans (below_anyN _ _ _))
        · have HX2 : Hid (exprV L k = ⟨x.flat, to, 0, 0⟩) := Lib.hid (by rw [HX.out, exprR_ok hd hs])
          have hsi : ¬ (40 : Int) < (n : Int) := by omega
          clear hns
          go_wp2_with fail
          go_quiet (fail)
          go_wp2_with fail
          refine bodyPost_ret (v := .tuple #[.slice A n c, .int .i64 to, .int .i64 0, .int .i64 0]) (by simp [results, Tryd.results12, go_sem]) rfl ?_
          exact givesE_of (q' := ⟨x.flat, to, 0, 0⟩) rfl HX2.out (HOX.out.on (below_drew1 _ _)) (HB2.out.trans (below_anyN _ _ _))
end Go.Proofs.YtcmbcbdijmknnaaDoor
