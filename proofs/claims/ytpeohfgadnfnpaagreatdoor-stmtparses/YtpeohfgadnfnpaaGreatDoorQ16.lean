/-
  DERIVED. Layer 3: the contract of the reader's chain.
-/
import Derived.Test.YtpeohfgadnfnpaaGreatDoorQ15
namespace Go.Proofs.YtpeohfgadnfnpaaGreatDoor
open Go.RowKit

set_option maxRecDepth 100000 in
set_option maxHeartbeats 4000000 in
theorem chain_six (L : List Tok) (f : Nat) (hs : SingleSays L f) (i d : Nat) (r : Res) (g : Nat) (v : Value) (w : World) (hd : d ≤ 12) (hr : singleF L f i d = some r) (h : Sits L w g v i d) :
    Calls Tryz.prog 141 #[.pointer (some ⟨g, 0, none⟩), .int .i64 6] w (GivesP L g v d i r w) := by
  have HF := Lib.hid hs
  have HR := Lib.hid hr
  have hgl := h.rd.lt
  have hb0 := (Below.refl w.heap.size w).alloc (Nat.le_refl _) (.cells #[.slice none 0 0, .int .i64 0, .int .i64 0] 166)
  have HB0 := Lib.hid hb0
  have HS0 := Lib.hid (h.on hb0)
  have HP0 := Lib.hid (pd_new w (.slice none 0 0) (.int .i64 0) (.int .i64 0))
  clear hs hr h hb0
  go_enter Tryz.func141, Tryz.ntmps141
  go_wp2_with fail
  refine (HF.out i d r g v _ hd HR.out HS0.out).mono ?_
  rintro e w1 ⟨P, A, n, c, hP, rfl, ho, hS1, hK1⟩
  have HP := Lib.hid hP
  have HO : Hid (OwnN w1 (w.heap.size + 1) (.slice A n c) P.ns) := Lib.hid (by simpa using ho)
  have HS1 := Lib.hid hS1
  have HK1 : Hid (Keeps g w w1) := Lib.hid ((Keeps.of HB0.out).trans hK1)
  obtain ⟨p0, p1, p2, p3, p4, p5, p6⟩ := HP0.out.keep (by omega) hK1
  clear hP ho hS1 hK1
  go_wp2_with fail
  refine bodyPost_ret (v := .tuple #[.agg #[.slice A n c, .int .i64 P.many, .int .i64 P.deep], .int .i64 (errOf r)]) (by simp [results, Tryz.results141, go_sem, *]) rfl ?_
  exact gives_end (rb := w.heap.size) HP.out rfl (HO.out.base (by omega)) (fun b hb => by have := (ownN_block HO.out b hb).1; omega) HS1.out HK1.out hgl (Nat.le_refl _)

/-- Where the reader stands, read off its cell. -/
def rdPos (g : Nat) (w : World) : Nat := match w.cell? ⟨g, 1, none⟩ with
  | some (.int _ z) => z.toNat
  | _ => 0
theorem rdPos_of {L : List Tok} {w : World} {g : Nat} {v : Value} {i d : Nat} (h : Sits L w g v i d) : rdPos g w = i := by
  unfold rdPos; rw [h.rd.c1]; simp
/-- How the chain stands at a round's head: left, and what is still to come. -/
def ChainI (L : List Tok) (f b : Nat) (i d : Nat) (g : Nat) (v : Value) (R : Res) (w : World) (lb : Nat) (E : Int) (wr : World) : Prop :=
  ∃ (P : Prt) (A : Option Addr) (n c pos : Nat), Pd wr lb (.slice A n c) (.int .i64 P.many) (.int .i64 P.deep) ∧ OwnN wr (w.heap.size + 1) (.slice A n c) P.ns ∧ (∀ k, (Value.slice A n c).ownBlock = some k → k ≠ lb) ∧ Pd wr w.heap.size (.slice none 0 0) (.int .i64 0) (.int .i64 0) ∧ Sits L wr g v pos d ∧ Keeps g w wr ∧
    ((E = 0 ∧ ∃ f' x, f' ≤ f ∧ P = prtOf x ∧ FineL L i x pos ∧ loopF L f' b x pos d = some R) ∨ (E ≠ 0 ∧ R = .bad E pos ∧ PrtFor i R P))

/-- What is made of a first operand. -/
def Goes (L : List Tok) (f b d : Nat) (R : Res) : Res → Prop
  | .ok x to => loopF L f b x to d = some R
  | .bad e j => R = .bad e j

theorem chain_start {L : List Tok} {f b i d g : Nat} {v : Value} {r1 R : Res} {w w1 : World} {P : Prt} {A : Option Addr} {n c : Nat} (hP : PrtFor i r1 P) (ho : OwnN w1 (w.heap.size + 1) (.slice A n c) P.ns) (hS : Sits L w1 g v (posOf r1) d) (hK : Keeps g w w1) (hp : Pd w1 w.heap.size (.slice none 0 0) (.int .i64 0) (.int .i64 0)) (hR : Goes L f b d R r1) (hf : Fine L i r1) :
    ChainI L f b i d g v R w w1.heap.size (errOf r1) (w1.alloc (.cells #[.slice A n c, .int .i64 P.many, .int .i64 P.deep] 166)) := by
  have hb := (Below.refl w1.heap.size w1).alloc (Nat.le_refl _) (.cells #[.slice A n c, .int .i64 P.many, .int .i64 P.deep] 166)
  refine ⟨P, A, n, c, posOf r1, pd_new w1 _ _ _, ho.on hb, fun k hk => ?_, hp.on hb, hS.on hb, hK.andBelow hb hK.size, ?_⟩
  · have := (ownN_block ho k hk).2; omega
  · cases r1 with
    | ok x to => exact .inl ⟨rfl, f, x, Nat.le_refl _, hP, hf, hR⟩
    | bad e j =>
      obtain ⟨he, _⟩ := hf
      have hR' : R = .bad e j := hR
      subst hR'
      exact .inr ⟨by show e ≠ 0; omega, rfl, hP⟩
/-- Whatever the chain comes to, it lies in the result's box. -/
theorem chain_end {L : List Tok} {i d g : Nat} {v : Value} {R : Res} {w wr : World} {P : Prt} {A : Option Addr} {n c : Nat} {x y z : Value} (hP : PrtFor i R P) (ho : OwnN wr (w.heap.size + 1) (.slice A n c) P.ns) (hS : Sits L wr g v (posOf R) d) (hK : Keeps g w wr) (hg : g < w.heap.size) {E : Int} (hE : E = errOf R) :
    GivesP L g v d i R w (.returned (.tuple #[.agg #[.slice A n c, .int .i64 P.many, .int .i64 P.deep], .int .i64 E])) (((wr.setCell ⟨w.heap.size, 0, none⟩ x).setCell ⟨w.heap.size, 1, none⟩ y).setCell ⟨w.heap.size, 2, none⟩ z) :=
  gives_end (rb := w.heap.size) hP hE (ho.base (by omega)) (fun b hb => by have := (ownN_block ho b hb).1; omega) hS hK hg (Nat.le_refl _)

/-- What a sign between two comes to. -/
def binR (a : Nod) (x : Ex) : Res → Res
  | .ok y to => .ok (.bin a x y) to
  | .bad e j => .bad e j
theorem binR_fit {L : List Tok} {i pos : Nat} {a : Nod} {x : Ex} {r : Res} (hl : L.length ≤ 10000) (hx : FineL L i x pos) (hp : pos < L.length) (hf : Fine L (pos + 1) r) : ∀ P, PrtFor (pos + 1) r P → FitsP P ∧ PrtFor i (binR a x r) (joinP a [prtOf x, P]) := by
  intro P hP
  obtain ⟨k1, k2, k3, k4, k5⟩ := hx
  cases r with
  | ok y to =>
    obtain rfl : P = prtOf y := hP
    obtain ⟨h1, h2, h3, h4, h5⟩ := hf
    exact ⟨fits_ok (by omega), join_bin a x y⟩
  | bad e j =>
    obtain ⟨_, g1, g2⟩ := hf
    obtain ⟨h1, h2, h3, h4⟩ := hP
    refine ⟨⟨h1, by omega, by omega⟩, ?_⟩
    show (joinP a [prtOf x, P]).ns.length ≤ 40 ∧ (joinP a [prtOf x, P]).ns.length ≤ manys [prtOf x, P] ∧ manys [prtOf x, P] ≤ j - i + 1 ∧ deepsP [prtOf x, P] ≤ j - i + 1
    have e1 : (joinP a [prtOf x, P]).ns = if manys [prtOf x, P] ≤ 40 then allN a [prtOf x, P] else [] := rfl
    have e2 : (allN a [prtOf x, P]).length = (prtOf x).ns.length + P.ns.length + 1 := by simp [allN]
    have e3 : manys [prtOf x, P] = x.size + P.many + 1 := by simp [manys, prtOf]; omega
    have e4 : deepsP [prtOf x, P] = max (max 1 (x.deep + 1)) (P.deep + 1) := by simp [deepsP, prtOf]
    have e5 : (prtOf x).ns.length ≤ x.size := by
      show (if x.size ≤ 40 then x.flat else []).length ≤ x.size
      split
      · rw [flat_len]; exact Nat.le_refl _
      · simp
    have hd := deep_size x
    rw [e1, e4]
    rw [e3] at *
    split
    · rw [e2]; omega
    · simp; omega
/-- The world in which the second operand is read. -/
theorem second_world {L : List Tok} {g : Nat} {v : Value} {pos d : Nat} {Z : World} (h : Sits L Z g v pos d) :
    ∃ Y, Y = (Z.setCell ⟨g, 1, none⟩ (.int .i64 ((pos : Int) + 1))).alloc (.cells #[.slice none 0 0, .int .i64 0, .int .i64 0] 166) ∧ Sits L Y g v (pos + 1) d ∧ Pd Y Z.heap.size (.slice none 0 0) (.int .i64 0) (.int .i64 0) ∧ Keeps g Z Y ∧ Z.heap.size < Y.heap.size := by
  refine ⟨_, rfl, ?_, ?_, ?_, by simp⟩
  · exact (h.set1 (pos + 1)).on ((Below.refl _ _).alloc (Nat.le_refl _) _)
  · have := pd_new (Z.setCell ⟨g, 1, none⟩ (.int .i64 ((pos : Int) + 1))) (.slice none 0 0) (.int .i64 0) (.int .i64 0)
    simpa using this
  · exact ((Keeps.refl g Z).set).andBelow ((Below.refl _ _).alloc (Nat.le_refl _) _) (by simp)
/-- Two parts, as an argument of join. -/
theorem two_parts {w : World} {B B2 : Nat} {P P2 : Prt} {A A2 : Option Addr} {n c n2 c2 : Nat} (ho : OwnN w B (.slice A n c) P.ns) (ho2 : OwnN w B2 (.slice A2 n2 c2) P2.ns) :
    ∃ J, J = w.alloc (.cells #[.slice A n c, .int .i64 P.many, .int .i64 P.deep, .slice A2 n2 c2, .int .i64 P2.many, .int .i64 P2.deep] 166) ∧ ReadP J (.slice (some ⟨w.heap.size, 0, none⟩) 2 2) [P, P2] ∧ Below w.heap.size w J := by
  have b1 := (Below.refl w.heap.size w).alloc (Nat.le_refl _) (.cells #[.slice A n c, .int .i64 P.many, .int .i64 P.deep, .slice A2 n2 c2, .int .i64 P2.many, .int .i64 P2.deep] 166)
  refine ⟨_, rfl, ⟨_, _, rfl, Nat.le_refl _, fun i p hi => ?_⟩, b1⟩
  match i, hi with
  | 0, hi =>
    simp at hi; subst hi
    exact ⟨_, _, rfl, by simp, by simp, by simp, by simp, (ho.on b1).lies⟩
  | 1, hi =>
    simp at hi; subst hi
    exact ⟨_, _, rfl, by simp, by simp, by simp, by simp, (ho2.on b1).lies⟩
/-- A box of three cells that has been filled; all else stays. -/
theorem filled {w : World} {b : Nat} {x y z : Value} (h : Pd w b x y z) (x' y' z' : Value) : ∃ w', w' = ((w.setCell ⟨b, 0, none⟩ x').setCell ⟨b, 1, none⟩ y').setCell ⟨b, 2, none⟩ z' ∧ Pd w' b x' y' z' ∧ Keeps b w w' ∧ Below b w w' ∧ w.heap.size = w'.heap.size :=
  ⟨_, rfl, h.set x' y' z', (((Keeps.refl _ _).set).set).set, (((Below.refl b w).setCell (p := ⟨b, 0, none⟩) (Nat.le_refl _) x').setCell (p := ⟨b, 1, none⟩) (Nat.le_refl _) y').setCell (p := ⟨b, 2, none⟩) (Nat.le_refl _) z', by simp⟩

set_option maxRecDepth 100000 in
set_option maxHeartbeats 8000000 in
theorem chain_loop (L : List Tok) (f : Nat) (hl : L.length ≤ 10000) (hc : ∀ f', f' ≤ f → ChainSays L f') (b i d : Nat) (r1 R : Res) (g : Nat) (v : Value) (w : World) (hb : 1 ≤ b) (hb2 : b ≤ 5) (hd : d ≤ 12) (hr1 : chainF L f (b + 1) i d = some r1)
    (hR : Goes L f b d R r1) (h : Sits L w g v i d) :
    Calls Tryz.prog 141 #[.pointer (some ⟨g, 0, none⟩), .int .i64 b] w (GivesP L g v d i R w) := by
  have HC := Lib.hid hc
  have HR1 := Lib.hid hr1
  have HR := Lib.hid hR
  have hfine := (fine_all L f).1 _ _ _ _ (by omega) (by omega) hr1
  have HFI := Lib.hid hfine
  have hgl := h.rd.lt
  have hb0 := (Below.refl w.heap.size w).alloc (Nat.le_refl _) (.cells #[.slice none 0 0, .int .i64 0, .int .i64 0] 166)
  have HB0 := Lib.hid hb0
  have HS0 := Lib.hid (h.on hb0)
  have HP0 := Lib.hid (pd_new w (.slice none 0 0) (.int .i64 0) (.int .i64 0))
  have hb6 : ((b : Int) == 6) = false := beq_eq_false_iff_ne.2 (by omega)
  clear hc hr1 hR hfine h hb0
  go_enter Tryz.func141, Tryz.ntmps141
  go_wp2_with fail
  refine (HC.out f (Nat.le_refl _) (b + 1) i d r1 g v _ (by omega) (by omega) hd HR1.out HS0.out).mono ?_
  rintro e w1 ⟨P, A, n, c, hP, rfl, ho, hS1, hK1⟩
  have ho' : OwnN w1 (w.heap.size + 1) (.slice A n c) P.ns := by simpa using ho
  have hK1' : Keeps g w w1 := (Keeps.of HB0.out).trans hK1
  have hI0 := chain_start (L := L) (f := f) (b := b) (R := R) hP ho' hS1 hK1' (HP0.out.keep (by omega) hK1) HR.out HFI.out
  have HI0 := Lib.hid hI0
  have hlb : w.heap.size < w1.heap.size := by have := hK1.size; simp at this; omega
  clear hP ho hS1 hK1 ho' hK1' hI0
  go_wp2_with fail
  generalize hlbe : w1.heap.size = lb at *
  clear hlbe
  go_loopw [7] (fun e wr => ∃ E, e = .int .i64 E ∧ ChainI L f b i d g v R w lb E wr) (fun e wr => (if intOf e = 0 then 1 else 0) + 2 * (L.length - rdPos g wr))
  case atStart => exact ⟨_, rfl, HI0.out⟩
  case round =>
    obtain ⟨E, rfl, P, A, n, c, pos, hpl, hown, hol, hpr, hS, hK, hst⟩ := hrel
    have HPL := Lib.hid hpl
    have HO := Lib.hid hown
    have HOL := Lib.hid hol
    have HPR := Lib.hid hpr
    have HS := Lib.hid hS
    have HK := Lib.hid hK
    clear hown hol HI0
    rcases hst with ⟨rfl, f', x, hf', rfl, hfl, hloop⟩ | ⟨hE, hRb, hPr⟩
    · cases f' with
      | zero => simp [loopF] at hloop
      | succ f' =>
        by_cases hsg : signAt L b pos = 0
        · have hRe : R = .ok x pos := by
            rw [loopF, if_pos hsg] at hloop
            exact (Option.some.inj hloop).symm
          subst hRe
          have HSG := Lib.hid hsg
          clear hloop hsg hfl hpl hpr hS hK
          go_wp2_with fail
          refine (sign_any L g v pos d b _ HS.out).mono ?_
          rw [HSG.out]
          rintro e w2 ⟨rfl, hb2⟩
          have HB2 := Lib.hid hb2
          obtain ⟨p0, p1, p2, p3, p4, p5, p6⟩ := HPL.out.on hb2
          obtain ⟨q0, q1, q2, q3, q4, q5, q6⟩ := HPR.out.on hb2
          clear hb2
          go_wp2_with fail
          refine bodyPost_ret (v := .tuple #[.agg #[.slice A n c, .int .i64 (prtOf x).many, .int .i64 (prtOf x).deep], .int .i64 0]) (by simp [results, Tryz.results141, go_sem, *]) rfl ?_
          exact chain_end (R := .ok x pos) rfl (HO.out.on HB2.out) (HS.out.on HB2.out) (HK.out.andBelow HB2.out HK.out.size) hgl rfl
        · have hlt := signAt_lt hsg
          rw [loopF, if_neg hsg] at hloop
          cases hch : chainF L f' (b + 1) (pos + 1) d with
          | none => rw [hch] at hloop; cases hloop
          | some r2 =>
            have hfine2 := (fine_all L f').1 _ _ _ _ (by omega) (by omega) hch
            obtain ⟨k, hk⟩ : ∃ k, signAt L b pos = k := ⟨_, rfl⟩
            have hk0 : ((k : Int) == 0) = false := beq_eq_false_iff_ne.2 (by omega)
            have hat : L[pos]? = some L[pos] := List.getElem?_eq_getElem hlt
            generalize L[pos] = t at *
            have hsn : signN L b pos = ⟨k, 0, [], t.pl⟩ := by unfold signN plAt; rw [hk, hat]
            have HFIT := Lib.hid (binR_fit (a := ⟨k, 0, [], t.pl⟩) hl hfl hlt hfine2)
            have HFX : Hid (FitsP (prtOf x)) := Lib.hid (fits_ok (by obtain ⟨a1, a2, a3, a4, a5⟩ := hfl; omega))
            have HNXT : Hid ((b = 3 → R = binR ⟨k, 0, [], t.pl⟩ x r2) ∧ (b ≠ 3 → (errOf r2 = 0 ∧ ∃ f'' x', f'' ≤ f ∧ binR ⟨k, 0, [], t.pl⟩ x r2 = .ok x' (posOf r2) ∧ FineL L i x' (posOf r2) ∧ loopF L f'' b x' (posOf r2) d = some R) ∨ (errOf r2 ≠ 0 ∧ R = .bad (errOf r2) (posOf r2) ∧ binR ⟨k, 0, [], t.pl⟩ x r2 = R)) ∧ pos < posOf r2 ∧ binR ⟨k, 0, [], t.pl⟩ x r2 = binR ⟨k, 0, [], t.pl⟩ x r2) := Lib.hid (by
              rw [hch, hsn] at hloop
              cases r2 with
              | ok y to =>
                simp only at hloop
                have hxy := fine_bin hb hb2 hsg hfl hfine2
                rw [hsn] at hxy
                obtain ⟨a1, _⟩ := hfine2
                refine ⟨fun h3 => ?_, fun h3 => ?_, by show pos < to; omega, rfl⟩
                · rw [if_pos h3] at hloop; exact (Option.some.inj hloop).symm
                · rw [if_neg h3] at hloop
                  exact .inl ⟨rfl, f', _, by omega, rfl, hxy, hloop⟩
              | bad e j =>
                simp only at hloop
                have hRe : R = .bad e j := (Option.some.inj hloop).symm
                subst hRe
                obtain ⟨he, a1, _⟩ := hfine2
                exact ⟨fun _ => rfl, fun _ => .inr ⟨by show e ≠ 0; omega, rfl, rfl⟩, by show pos < j; omega, rfl⟩)
            have HSG := Lib.hid hk
            have HCH := Lib.hid hch
            have HAT := Lib.hid hat
            have hff : f' ≤ f := by omega
            clear hloop hsg hfl hpl hpr hS hK hch hfine2 hk hat hsn
            go_wp2_with fail
            refine (sign_any L g v pos d b _ HS.out).mono ?_
            rw [HSG.out]
            rintro e w2 ⟨rfl, hb2⟩
            have HS2 := Lib.hid (HS.out.on hb2)
            have HPL2 := Lib.hid (HPL.out.on hb2)
            have HPR2 := Lib.hid (HPR.out.on hb2)
            have HO2 := Lib.hid (HO.out.on hb2)
            have HK2 : Hid (Keeps g w w2) := Lib.hid (HK.out.andBelow hb2 HK.out.size)
            clear hb2
            obtain ⟨⟨hg2, c0, c1, c2, f1, f2⟩, ⟨A0, cc, hv0, hcc, hr0⟩, _, _⟩ := HS2.out
            obtain ⟨tb, rfl, hbg, x0, x1, x2, x3⟩ := hr0 pos t HAT.out
            subst hv0
            clear hr0 c2 f1 f2 x0 x1 x2
            have hi0 : (0 : Int) ≤ (pos : Int) := by omega
            have hi1 : (pos : Int) < (L.length : Int) := by omega
            have n0 := World.new_ne w2 _ c0
            have n1 := World.new_ne w2 _ c1
            have m3 := World.new_ne w2 _ x3
            go_wp2_with fail
            go_region_held3 (fun w' => w'.cell? ⟨g, 0, none⟩ = some (.slice (some ⟨tb, 0, none⟩) L.length cc) ∧ w'.cell? ⟨g, 1, none⟩ = some (.int .i64 pos) ∧ w'.cell? ⟨tb, pos * 4 + 3, none⟩ = some (.int .i64 t.pl))
              (first | exact ⟨c0, c1, x3⟩ | go_keep)
              (fail)
            have hN := (nd_new w2 (.int .i64 k) (.int .i64 0) (.string ⟨#[]⟩) (.int .i64 t.pl) 33).on (below_any _ _)
            have hBn := ((Below.refl w2.heap.size w2).alloc (Nat.le_refl _) (.cells #[.int .i64 k, .int .i64 0, .string ⟨#[]⟩, .int .i64 t.pl] 33)).trans (below_any _ _)
            clear n0 n1 m3 c0 c1 x3 hi0 hi1
            generalize hZ : (w2.alloc (.cells #[.int .i64 k, .int .i64 0, .string ⟨#[]⟩, .int .i64 t.pl] 33)).drew = Z at *
            clear hZ
            have HSZ := Lib.hid (HS2.out.on hBn)
            have HPLZ := Lib.hid (HPL2.out.on hBn)
            have HPRZ := Lib.hid (HPR2.out.on hBn)
            have HOZ := Lib.hid (HO2.out.on hBn)
            have HKZ : Hid (Keeps g w Z) := Lib.hid (HK2.out.andBelow hBn HK2.out.size)
            have HNZ := Lib.hid hN
            have hzn := hN.lt
            clear hN hBn
            obtain ⟨⟨hgZ, c0, c1, c2, f1, f2⟩, _, _, _⟩ := HSZ.out
            go_wp2_with fail
            obtain ⟨Y, hY, hSY, hPY, hKY, hzY⟩ := second_world HSZ.out
            rw [← hY]
            have HSY := Lib.hid hSY
            have HPY := Lib.hid hPY
            have HPLY := Lib.hid (HPLZ.out.keep (by omega) hKY)
            have HPRY := Lib.hid (HPRZ.out.keep (by omega) hKY)
            have HOY := Lib.hid (HOZ.out.keep (by omega) hKY)
            have HNY := Lib.hid (HNZ.out.keep (by omega) hKY)
            have HKY : Hid (Keeps g w Y) := Lib.hid (HKZ.out.trans hKY)
            have hoz : ∀ q, (Value.slice A n c).ownBlock = some q → q < Z.heap.size := fun q hq => (ownN_block HOZ.out q hq).2
            have HOW := Lib.hid hoz
            have hlbz := HPLZ.out.lt
            have hrz := HPRZ.out.lt
            clear hY hSY hPY hKY c0 c1 c2 f1 f2 hoz
            refine (HC.out f' hff (b + 1) (pos + 1) d r2 g _ Y (by omega) (by omega) hd HCH.out HSY.out).mono ?_
            rintro e w3 ⟨P2, A2, n2, c2, hP2, rfl, ho2, hS3, hK3⟩
            have HP2 := Lib.hid hP2
            have HO2' := Lib.hid ho2
            have HS3 := Lib.hid hS3
            have HK3 : Hid (Keeps g w w3) := Lib.hid (HKY.out.trans hK3)
            have HPL3 := Lib.hid (HPLY.out.keep (by omega) hK3)
            have HPR3 := Lib.hid (HPRY.out.keep (by omega) hK3)
            have HOL3 := Lib.hid (HOY.out.keep (by omega) hK3)
            have HN3 := Lib.hid (HNY.out.keep (by omega) hK3)
            have hPB3 := HPY.out.keep (by omega) hK3
            have HPB3 := Lib.hid hPB3
            have hz3 : Z.heap.size < w3.heap.size := by have := hK3.size; omega
            clear hP2 ho2 hS3 hK3
            obtain ⟨w4, hw4, hP4, hK4, hB4, hz4⟩ := filled hPB3 (.slice A2 n2 c2) (.int .i64 P2.many) (.int .i64 P2.deep)
            have HW4 := Lib.hid hw4
            have HZ4 := Lib.hid hz4
            have HS4 := Lib.hid (HS3.out.upto hB4 (by omega))
            have HK4 : Hid (Keeps g w w4) := Lib.hid (HK3.out.andBelow hB4 (by omega))
            have HPL4 := Lib.hid (HPL3.out.keep (g := Z.heap.size) (by omega) hK4)
            have HPR4 := Lib.hid (HPR3.out.keep (g := Z.heap.size) (by omega) hK4)
            have HOL4 : Hid (OwnN w4 (w.heap.size + 1) (.slice A n c) (prtOf x).ns) := Lib.hid (HOL3.out.away (g := Z.heap.size) (fun q hq => by have := HOW.out q hq; omega) hK4)
            have HOR4 : Hid (OwnN w4 Y.heap.size (.slice A2 n2 c2) P2.ns) := Lib.hid (HO2'.out.away (g := Z.heap.size) (fun q hq => by have := (ownN_block HO2'.out q hq).1; omega) hK4)
            have HN4 := Lib.hid (HN3.out.keep (g := Z.heap.size) (by omega) hK4)
            have HP4 := Lib.hid hP4
            obtain ⟨s0, s1, s2, s3, s4, s5, s6⟩ := hPB3
            clear hw4 hz4 hP4 hK4 hB4
            go_upto_region 11 with (fail)
            rw [← HW4.out]
            clear s0 s1 s2 s3 s4 s5 s6
            obtain ⟨y0, y1, y2, y3, y4, _, _, _⟩ := HN4.out
            obtain ⟨p0, p1, p2, p3, p4, p5, p6⟩ := HPL4.out
            obtain ⟨s0, s1, s2, s3, s4, s5, s6⟩ := HP4.out
            go_wp2_with fail
            obtain ⟨J, hJ, hRJ, hBJ⟩ := two_parts (P := prtOf x) (P2 := P2) HOL4.out HOR4.out
            rw [← hJ]
            have HRJ := Lib.hid hRJ
            have HBJ := Lib.hid hBJ
            clear hJ hRJ hBJ y0 y1 y2 y3 y4 p0 p1 p2 p3 p4 p5 p6 s0 s1 s2 s3 s4 s5 s6
            have HFT := Lib.hid (HFIT.out P2 HP2.out)
            refine (join_any ⟨k, 0, [], t.pl⟩ _ [prtOf x, P2] J HRJ.out (by simp) (by intro p hp; simp at hp; rcases hp with rfl | rfl; exact HFX.out; exact HFT.out.1)).mono ?_
            rintro e w5 ⟨u, rfl, ho5, hb5⟩
            obtain ⟨A5, n5, c5, rfl⟩ := own_slice ho5
            have hJz := HBJ.out.size
            have hb45 := below_then HBJ.out hb5
            have HO5 := Lib.hid ho5
            have HS5 := Lib.hid (HS4.out.on hb45)
            have HK5 : Hid (Keeps g w w5) := Lib.hid (HK4.out.andBelow hb45 HK4.out.size)
            have hPL5 := HPL4.out.on hb45
            have HPR5 := Lib.hid (HPR4.out.on hb45)
            have hlb4 := HPL4.out.lt
            clear ho5 hb5 hb45
            have HFP := Lib.hid HFT.out.2
            generalize joinP ⟨(k : Int), 0, [], (t.pl : Int)⟩ [prtOf x, P2] = P' at *
            obtain ⟨w6, hw6, hP6, hK6, hB6, hz6⟩ := filled hPL5 (.slice A5 n5 c5) (.int .i64 P'.many) (.int .i64 P'.deep)
            have HW6 := Lib.hid hw6
            have HS6 := Lib.hid (HS5.out.upto hB6 (by omega))
            have HK6 : Hid (Keeps g w w6) := Lib.hid (HK5.out.andBelow hB6 (by omega))
            have HPR6 := Lib.hid (HPR5.out.keep (g := lb) (by omega) hK6)
            have hob : ∀ q, (Value.slice A5 n5 c5).ownBlock = some q → q ≠ lb := fun q hq => by have := (ownN_block HO5.out q hq).1; omega
            have HOB := Lib.hid hob
            have HO6 : Hid (OwnN w6 (w.heap.size + 1) (.slice A5 n5 c5) P'.ns) := Lib.hid ((HO5.out.away (g := lb) hob hK6).base (by omega))
            have HP6 := Lib.hid hP6
            obtain ⟨s0, s1, s2, s3, s4, s5, s6⟩ := hPL5
            clear hw6 hz6 hP6 hK6 hB6 hob
            go_upto_region 12 with (fail)
            rw [← HW6.out]
            clear s0 s1 s2 s3 s4 s5 s6
            by_cases h3 : b = 3
            · have hRe := HNXT.out.1 h3
              have HRE := Lib.hid hRe
              have hb3 : ((b : Int) == 3) = true := by rw [h3]; rfl
              have HE : Hid (errOf r2 = errOf R) := Lib.hid (by rw [hRe]; cases r2 <;> rfl)
              have HPo : Hid (posOf r2 = posOf R) := Lib.hid (by rw [hRe]; cases r2 <;> rfl)
              obtain ⟨p0, p1, p2, p3, p4, p5, p6⟩ := HP6.out
              obtain ⟨q0, q1, q2, q3, q4, q5, q6⟩ := HPR6.out
              clear hRe h3
              go_wp2_with fail
              refine bodyPost_ret (v := .tuple #[.agg #[.slice A5 n5 c5, .int .i64 P'.many, .int .i64 P'.deep], .int .i64 (errOf r2)]) (by simp [results, Tryz.results141, go_sem, *]) rfl ?_
              exact chain_end (by rw [HRE.out]; exact HFP.out) HO6.out (by rw [← HPo.out]; exact HS6.out) HK6.out hgl HE.out
            · have hb3 : ((b : Int) == 3) = false := beq_eq_false_iff_ne.2 (by omega)
              have HNX := Lib.hid (HNXT.out.2.1 h3)
              have HPS := Lib.hid HNXT.out.2.2.1
              have HR1 := Lib.hid (rdPos_of HS6.out)
              have HR0 := Lib.hid (rdPos_of HS.out)
              clear h3
              go_wp2_with fail
              go_roundw
              case rel =>
                refine ⟨_, rfl, P', A5, n5, c5, posOf r2, HP6.out, HO6.out, HOB.out, HPR6.out, HS6.out, HK6.out, ?_⟩
                rcases HNX.out with ⟨h0, f'', x', hf'', hbx, hfx, hlx⟩ | ⟨h0, hRb, hbx⟩
                · refine .inl ⟨h0, f'', x', hf'', ?_, hfx, hlx⟩
                  have := HFP.out
                  rw [hbx] at this
                  exact this
                · refine .inr ⟨h0, hRb, ?_⟩
                  have := HFP.out
                  rw [hbx] at this
                  exact this
              case measure =>
                rw [HR1.out, HR0.out]
                have := HPS.out
                split <;> simp [intOf] <;> omega
    · subst hRb
      have hE2 : (E == 0) = false := beq_eq_false_iff_ne.2 hE
      have HPr := Lib.hid hPr
      obtain ⟨p0, p1, p2, p3, p4, p5, p6⟩ := hpl
      obtain ⟨q0, q1, q2, q3, q4, q5, q6⟩ := hpr
      clear hE hPr hS hK
      go_wp2_with fail
      refine bodyPost_ret (v := .tuple #[.agg #[.slice A n c, .int .i64 P.many, .int .i64 P.deep], .int .i64 E]) (by simp [results, Tryz.results141, go_sem, *]) rfl ?_
      exact chain_end (R := .bad E pos) HPr.out HO.out HS.out HK.out hgl rfl
end Go.Proofs.YtpeohfgadnfnpaaGreatDoor
