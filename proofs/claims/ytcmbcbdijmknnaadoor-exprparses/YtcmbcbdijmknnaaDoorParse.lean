/-
  DERIVED. Layer 3: the contract of expr.Parse: the expression that begins at any token.
-/
import Derived.Test.YtcmbcbdijmknnaaDoorLoop
namespace Go.Proofs.YtcmbcbdijmknnaaDoor
open Go.RowKit

theorem chain_step (L : List Tok) (f : Nat) (hl : L.length ≤ 10000) (hc : ∀ f', f' ≤ f → ChainSays L f') (hs : SingleSays L f) : ChainSays L (f + 1) := by
  intro b i d r g v w hb hb2 hd hr h
  rw [chainF] at hr
  by_cases h6 : b = 6
  · rw [if_pos h6] at hr
    subst h6
    exact chain_six L f hs i d r g v w hd hr h
  · rw [if_neg h6] at hr
    cases hch : chainF L f (b + 1) i d with
    | none => rw [hch] at hr; cases hr
    | some r1 =>
      refine chain_loop L f hl hc b i d r1 r g v w hb (by omega) hd hch ?_ h
      rw [hch] at hr
      cases r1 with
      | ok x to => exact hr
      | bad e j => simp at hr; exact hr.symm
theorem says_all (L : List Tok) (hl : L.length ≤ 10000) (hsm : SmallT L) : ∀ f, (∀ f', f' ≤ f → ChainSays L f') ∧ SingleSays L f := by
  intro f
  induction f with
  | zero =>
    refine ⟨fun f' hf' => ?_, fun i d r g v w _ hr => by simp [singleF] at hr⟩
    obtain rfl : f' = 0 := by omega
    exact fun b i d r g v w _ _ _ hr => by simp [chainF] at hr
  | succ f ih =>
    refine ⟨fun f' hf' => ?_, single_step L f hl hsm (ih.1 f (Nat.le_refl _)) ih.2⟩
    by_cases e : f' = f + 1
    · subst e; exact chain_step L f hl ih.1 ih.2
    · exact ih.1 f' (by omega)

/-- What Parse comes back with. -/
def GivesE (q : Parsed) (w : World) (e : Ending) (w' : World) : Prop :=
  ∃ v, e = .returned (.tuple #[v, .int .i64 q.to, .int .i64 q.err, .int .i64 q.pl]) ∧ OwnN w' w.heap.size v q.nodes ∧ Below w.heap.size w w'
theorem givesE_of {q q' : Parsed} {w w' : World} {e : Ending} {v : Value} (he : e = .returned (.tuple #[v, .int .i64 q'.to, .int .i64 q'.err, .int .i64 q'.pl])) (h : q = q') (ho : OwnN w' w.heap.size v q'.nodes) (hb : Below w.heap.size w w') : GivesE q w e w' := by
  subst h; exact ⟨v, he, ho, hb⟩
theorem sits_new {L : List Tok} {v : Value} {i : Nat} {w : World} (h : ReadT w v L) (ht : Tabs w) : Sits L (w.alloc (.cells #[v, .int .i64 i, .int .i64 0] 57)) w.heap.size v i 0 := by
  have hb := (Below.refl w.heap.size w).alloc (Nat.le_refl _) (.cells #[v, .int .i64 i, .int .i64 0] 57)
  refine ⟨⟨by simp, by simp, by simp, by simp, by simp, by simp⟩, ?_, ht.on hb, ht.lt2⟩
  obtain ⟨A, c, hv, hc, hr⟩ := h
  refine ⟨A, c, hv, hc, fun j t hj => ?_⟩
  obtain ⟨b, hA, hbl, h0, h1, h2, h3⟩ := hr j t hj
  have e : ∀ o, (w.alloc (.cells #[v, .int .i64 i, .int .i64 0] 57)).cell? ⟨b, o, none⟩ = w.cell? ⟨b, o, none⟩ := fun o => hb.cell (p := ⟨b, o, none⟩) hbl
  exact ⟨b, hA, hbl, (e _).trans h0, (e _).trans h1, (e _).trans h2, (e _).trans h3⟩

def exprR (L : List Tok) (i : Int) : Res → Parsed
  | .bad e j => ⟨[], 0, e, placeV L j⟩
  | .ok x to => if 12 < x.deep then ⟨[], 0, 7, placeV L i⟩ else if 40 < x.size then ⟨[], 0, 2, placeV L i⟩ else ⟨x.flat, to, 0, 0⟩
theorem exprV_nat (L : List Tok) (k : Nat) : exprV L k = exprR L k (parseR L k) := by
  unfold exprV
  rw [if_neg (by omega), Int.toNat_natCast]
  cases parseR L k <;> rfl
theorem exprR_deep {L : List Tok} {k : Int} {x : Ex} {to : Nat} (h : 12 < x.deep) : exprR L k (.ok x to) = ⟨[], 0, 7, placeV L k⟩ := by
  show (if 12 < x.deep then _ else _) = _
  rw [if_pos h]
theorem exprR_big {L : List Tok} {k : Int} {x : Ex} {to : Nat} (h : ¬ 12 < x.deep) (h2 : 40 < x.size) : exprR L k (.ok x to) = ⟨[], 0, 2, placeV L k⟩ := by
  show (if 12 < x.deep then _ else if 40 < x.size then _ else _) = _
  rw [if_neg h, if_pos h2]
theorem exprR_ok {L : List Tok} {k : Int} {x : Ex} {to : Nat} (h : ¬ 12 < x.deep) (h2 : ¬ 40 < x.size) : exprR L k (.ok x to) = ⟨x.flat, to, 0, 0⟩ := by
  show (if 12 < x.deep then _ else if 40 < x.size then _ else (⟨x.flat, to, 0, 0⟩ : Parsed)) = _
  rw [if_neg h, if_neg h2]

set_option maxRecDepth 100000 in
set_option maxHeartbeats 4000000 in
theorem parse_any (v : Value) (L : List Tok) (i : Int) (w : World) (h : ReadT w v L) (ht : Tabs w) (hl : L.length ≤ 10000) (hsm : SmallT L) : Calls Tryd.prog 13 #[v, .int .i64 i] w (GivesE (exprV L i) w) := by
  by_cases hi : i < 0
  · have HQ : Hid (exprV L i = ⟨[], 0, 1, 0⟩) := Lib.hid (by unfold exprV; rw [if_pos hi])
    clear h
    go_enter Tryd.func13, Tryd.ntmps13
    go_wp2_with fail
    refine bodyPost_ret (v := .tuple #[.slice none 0 0, .int .i64 0, .int .i64 1, .int .i64 (0)]) (by simp [results, Tryd.results13, go_sem]) rfl ?_
    exact givesE_of (q' := ⟨[], 0, 1, 0⟩) rfl HQ.out (ownN_nil _ _) (Below.refl _ _)
  · obtain ⟨k, rfl⟩ : ∃ k : Nat, i = k := ⟨i.toNat, by omega⟩
    have HC := Lib.hid (((says_all L hl hsm (20 * (L.length - k) + 12)).1 _ (Nat.le_refl _)) 1 k 0 (parseR L k) w.heap.size v _ (by omega) (by omega) (by omega) (parseR_chain L k) (sits_new h ht))
    have HF := Lib.hid (parseR_fine L k)
    have HX := Lib.hid (exprV_nat L k)
    have HSM := Lib.hid hsm
    have HR := Lib.hid h
    obtain ⟨A0, cc0, rfl, _, _⟩ := h
    clear ht hsm hi
    generalize parseR L k = r at *
    have hz : (w.alloc (.cells #[.slice A0 L.length cc0, .int .i64 k, .int .i64 0] 57)).heap.size = w.heap.size + 1 := by simp
    have HB0 := Lib.hid ((Below.refl w.heap.size w).alloc (Nat.le_refl _) (.cells #[.slice A0 L.length cc0, .int .i64 k, .int .i64 0] 57))
    go_enter Tryd.func13, Tryd.ntmps13
    go_wp2_with fail
    refine HC.out.mono ?_
    rintro e w1 ⟨P, A, n, c, hP, rfl, ho, hS, hK⟩
    rw [hz] at ho
    have hbw : Below w.heap.size w w1 := HB0.out.trans (hK.below (Nat.le_refl _) (by rw [hz]; omega))
    have HP := Lib.hid hP
    have HO := Lib.hid ho
    have HS := Lib.hid hS
    have HB := Lib.hid hbw
    have hgl := hS.rd.lt
    obtain ⟨⟨_, c0, c1, c2, f1, f2⟩, _, _, _⟩ := hS
    clear hP ho hK hbw hz HC HB0 c2 f1 f2
    cases r with
    | bad e j =>
      obtain ⟨he, _⟩ := HF.out
      have he2 : (e != 0) = true := by rcases he with rfl | rfl | rfl <;> rfl
      clear he
      simp only [errOf, posOf] at *
      have HB2 := Lib.hid (HB.out.alloc HB.out.size (.cells #[.slice A n c, .int .i64 P.many, .int .i64 P.deep] 59))
      go_wp2_with fail
      refine (place_any _ L j _ ((HR.out.on HB2.out)) hl HSM.out).mono ?_
      rintro e' w2 ⟨rfl, hb⟩
      go_wp2_with fail
      refine bodyPost_ret (v := .tuple #[.slice none 0 0, .int .i64 0, .int .i64 e, .int .i64 (placeV L j)]) (by simp [results, Tryd.results13, go_sem]) rfl ?_
      exact givesE_of (q' := ⟨[], 0, e, placeV L j⟩) rfl HX.out (ownN_nil _ _) (below_then HB2.out hb)
    | ok x to =>
      obtain ⟨h1, h2, h3, h4, h5⟩ := HF.out
      have hdz := deep_size x
      obtain rfl : P = prtOf x := HP.out
      have HB2 := Lib.hid (HB.out.alloc HB.out.size (.cells #[.slice A n c, .int .i64 (prtOf x).many, .int .i64 (prtOf x).deep] 59))
      have em : (prtOf x).many = x.size := rfl
      have ed : (prtOf x).deep = x.deep := rfl
      simp only [errOf, posOf, em, ed] at *
      clear em ed h5
      by_cases hd : 12 < x.deep
      · have HX2 : Hid (exprV L k = ⟨[], 0, 7, placeV L k⟩) := Lib.hid (by rw [HX.out, exprR_deep hd])
        have hdi : (12 : Int) < (x.deep : Int) := by omega
        go_wp2_with fail
        refine (place_any _ L k _ ((HR.out.on HB2.out)) hl HSM.out).mono ?_
        rintro e' w2 ⟨rfl, hb⟩
        go_wp2_with fail
        refine bodyPost_ret (v := .tuple #[.slice none 0 0, .int .i64 0, .int .i64 7, .int .i64 (placeV L k)]) (by simp [results, Tryd.results13, go_sem]) rfl ?_
        exact givesE_of (q' := ⟨[], 0, 7, placeV L k⟩) rfl HX2.out (ownN_nil _ _) (below_then HB2.out hb)
      · have hdi : ¬ (12 : Int) < (x.deep : Int) := by omega
        by_cases hs : 40 < x.size
        · have HX2 : Hid (exprV L k = ⟨[], 0, 2, placeV L k⟩) := Lib.hid (by rw [HX.out, exprR_big hd hs])
          have hsi : (40 : Int) < (x.size : Int) := by omega
          go_wp2_with fail
          refine (place_any _ L k _ ((HR.out.on HB2.out)) hl HSM.out).mono ?_
          rintro e' w2 ⟨rfl, hb⟩
          go_wp2_with fail
          refine bodyPost_ret (v := .tuple #[.slice none 0 0, .int .i64 0, .int .i64 2, .int .i64 (placeV L k)]) (by simp [results, Tryd.results13, go_sem]) rfl ?_
          exact givesE_of (q' := ⟨[], 0, 2, placeV L k⟩) rfl HX2.out (ownN_nil _ _) (below_then HB2.out hb)
        · have HX2 : Hid (exprV L k = ⟨x.flat, to, 0, 0⟩) := Lib.hid (by rw [HX.out, exprR_ok hd hs])
          have hsi : ¬ (40 : Int) < (x.size : Int) := by omega
          have HO2 : Hid (OwnN w1 w.heap.size (.slice A n c) x.flat) := Lib.hid (by
            have h0 := HO.out.base (B' := w.heap.size) (by omega)
            rw [show (prtOf x).ns = x.flat from by show (if x.size ≤ 40 then x.flat else []) = _; rw [if_pos (by omega)]] at h0
            exact h0)
          go_wp2_with fail
          go_quiet (fail)
          go_wp2_with fail
          refine bodyPost_ret (v := .tuple #[.slice A n c, .int .i64 to, .int .i64 0, .int .i64 0]) (by simp [results, Tryd.results13, go_sem]) rfl ?_
          exact givesE_of (q' := ⟨x.flat, to, 0, 0⟩) rfl HX2.out ((HO2.out.on ((Below.refl _ _).alloc (Nat.le_refl _) _)).on (below_drew1 _ _)) (HB2.out.trans (below_anyN _ _ _))
end Go.Proofs.YtcmbcbdijmknnaaDoor
