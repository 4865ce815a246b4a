/-
  DERIVED. Texts of the walk, packed: SPars, RefText.
-/
import Derived.Test.YtpeohfgadnfnpaaGreatDoorQ30
import Derived.Test.YtpeohfgadnfnpaaGreatDoorQ19
import Derived.Test.YtpeohfgadnfnpaaGreatDoorQ10
import Derived.Test.YtpeohfgadnfnpaaGreatDoorQ06
import Derived.Laws.IdiomStrings
import Derived.Lib.ItoaLen
/-
  DERIVED. Layer 4: contracts of the reader's block and of stmt.Parse.
-/
namespace Go.Proofs.YtpeohfgadnfnpaaGreatDoor
open Go.RowKit

/-- What is told in the end, by what has been read and what the rest of the row is. -/
def Fin4 (L : List Tok) (pre : List Stm) (rr r : RS Bk) : Prop := match rr with
  | .bad e p => r = .bad e p
  | .ok b j => match mustP L j [125] with
    | .ok _ j2 => ∃ t, r = .ok t j2 ∧ t.flat = pre ++ b.flat
    | .bad e p => r = .bad e p
theorem fin_begin {L : List Tok} {row : Rows4} {i d l : Nat} {r : RS Bk} (h : blockW row L i d l = some r) (h1 : isB L i [123] = true) (h2 : d ≤ 12) : ∃ rr, row (i + 1) d l = some rr ∧ Fin4 L [] rr r := by
  unfold blockW at h
  rw [if_neg (by omega), mustP_is h1, RS.obind_ok] at h
  rcases RS.obind_some h with ⟨b, j, h3, h4⟩ | ⟨e, p, h3, h4⟩
  · refine ⟨_, h3, ?_⟩
    unfold Fin4
    simp only
    cases hm : mustP L j [125] with
    | ok u j2 =>
      rw [hm] at h4
      exact ⟨b, (Option.some.inj h4).symm, rfl⟩
    | bad e p =>
      rw [hm] at h4
      exact (Option.some.inj h4).symm
  · exact ⟨_, h3, h4⟩
theorem fin_end {L : List Tok} {f i d l : Nat} {pre : List Stm} {rr r : RS Bk} (h : rowF L f i d l = some rr) (hf : Fin4 L pre rr r) (hq : isB L i [125] = true) : ∃ t, r = .ok t (i + 1) ∧ t.flat = pre := by
  cases f with
  | zero => simp [rowF] at h
  | succ f =>
    rw [rowF_succ, if_pos hq] at h
    obtain rfl := Option.some.inj h
    unfold Fin4 at hf
    simp only [mustP_is hq] at hf
    obtain ⟨t, h1, h2⟩ := hf
    exact ⟨t, h1, by rw [h2]; simp [Bk.flat]⟩
theorem fin_step {L : List Tok} {f i d l : Nat} {pre : List Stm} {rr r : RS Bk} (h : rowF L f i d l = some rr) (hf : Fin4 L pre rr r) (hq : isB L i [125] = false) : ∃ f' ro, f = f' + 1 ∧ oneW (rowF L f') L i d l = some ro ∧
    (match ro with
    | .bad e p => r = .bad e p
    | .ok o j => ∃ rr', rowF L f' j d l = some rr' ∧ Fin4 L (pre ++ (o.s :: (o.b.flat ++ o.e.flat))) rr' r) := by
  cases f with
  | zero => simp [rowF] at h
  | succ f =>
    rw [rowF_succ, if_neg (by rw [hq]; simp)] at h
    rcases RS.obind_some h with ⟨o, j, h1, h2⟩ | ⟨e, p, h1, rfl⟩
    · refine ⟨f, .ok o j, rfl, h1, ?_⟩
      simp only
      rcases RS.obind_some h2 with ⟨b, j2, h3, h4⟩ | ⟨e, p, h3, rfl⟩
      · refine ⟨_, h3, ?_⟩
        obtain rfl := Option.some.inj h4
        unfold Fin4 at hf ⊢
        simp only at hf ⊢
        split at hf
        · rename_i u j3 _
          obtain ⟨t, g1, g2⟩ := hf
          exact ⟨t, g1, by rw [g2]; simp [Bk.flat]⟩
        · exact hf
      · exact ⟨_, h3, hf⟩
    · exact ⟨f, .bad e p, rfl, h1, hf⟩
section
variable {L : List Tok} {W0 : World} {g : Nat} {lv : Value} {i d l m : Nat} {pl : Int} {K : List Sv} {kv : Value} {w : World} {b : Nat} {x : Sv}
/-- How far the statements of a block are read. -/
def Round4 (L : List Tok) (W0 : World) (g : Nat) (lv : Value) (d l m : Nat) (K : List Sv) (kv : Value) (w : World) (f : Nat) (r : RS Bk) (wr : World) : Prop :=
  ∃ (f' i' : Nat) (pl' : Int) (K' : List Sv) (kv' : Value) (pre : List Stm) (rr : RS Bk), f' ≤ f ∧ St4 L W0 g lv i' (d + 1) l (m + pre.length) pl' (K ++ K') kv' wr ∧ K'.map (·.s) = pre.take (40 - K.length) ∧ Onward kv kv' w ∧ KeepP (Mine g kv) w wr ∧ m + pre.length + 1 ≤ i' ∧ i' ≤ L.length ∧ rowF L f' i' d l = some rr ∧ Fin4 L pre rr r
theorem held_is {j : Nat} {v : Value} (h : w.cell? ⟨g, j, none⟩ = some v) : heldAt g j w = v := by unfold heldAt; rw [h]; rfl
set_option maxRecDepth 100000 in
set_option maxHeartbeats 8000000 in
theorem block_step (hs : Src L W0 lv) (f : Nat) (ih : ∀ f', f' < f → BlockSays L W0 g lv (rowF L f')) : BlockSays L W0 g lv (rowF L f) := by
  intro i d l m pl K kv w r h hr
  have HS := Lib.hid h
  have HC := Lib.hid hs
  have IH := Lib.hid ih
  have hlen := hs.len
  have hgl := h.lt
  have c0 := h.c0
  have c1 := h.c1
  have hdd := h.dd
  have hll := h.ll
  have hmi := h.mi
  cases hq : isB L i [123] with
  | false =>
    obtain ⟨er, her⟩ : ∃ er : Int, (if i < L.length then 5 else 6) = er := ⟨_, rfl⟩
    have hne0 : er ≠ 0 := by rw [← her]; split <;> decide
    have h3 : r = .bad er (placeV L i) := by
      unfold blockW at hr
      rw [if_neg (by rw [hq]; simp)] at hr
      unfold mustP badR at hr
      rw [if_neg (by rw [hq]; simp), her] at hr
      exact (Option.some.inj hr).symm
    subst h3
    have HI := Lib.hid hq
    have HER := Lib.hid her
    clear h hs ih hr hq her
    go_enter Tryz.func27, Tryz.ntmps27
    go_wp2_with fail
    go_region_held3 (fun w' => w'.cell? ⟨g, 0, none⟩ = some lv ∧ w'.cell? ⟨g, 1, none⟩ = some (.int .i64 i) ∧ Below w.heap.size w w')
      (first | exact ⟨c0, c1, Below.refl _ _⟩ | exact ⟨c0, c1, below_dr _⟩ | exact kept2 (w1 := w.drew) hgl ⟨c0, c1, below_dr _⟩ hb1)
      (first | (go_at_call 48; refine (is_at (s := [123]) HI.out lv _ ((HS.out.on (below_dr _)).toks HC.out)).mono ?_; rintro e w1 ⟨rfl, hb1⟩))
    have HB1 := Lib.hid (below_then (below_dr w) hb1)
    have HS1 := Lib.hid (HS.out.on HB1.out)
    clear hb1 c0 c1
    go_wp2_with fail
    refine (wrong4 HC.out HS1.out).mono ?_
    rw [HER.out]
    rintro e w2 ⟨rfl, hs2, hk2⟩
    have HS2 := Lib.hid hs2
    have HK2 := Lib.hid hk2
    clear hs2 hk2
    go_wp2_with fail
    refine bodyPost_ret (v := .tuple #[.int .i64 0, .int .i64 er]) (by simp [results, Tryz.results27, go_sem]) rfl ?_
    exact ⟨rfl, hne0, HS2.out.bad, (KeepP.of (P := Mine g kv) HB1.out).trans HK2.out (fun _ _ h => h) (fun _ _ h => .inl h)⟩
  | true =>
    have hil := isB_lt hq
    have HI := Lib.hid hq
    by_cases hd : 12 < d
    · have h3 : r = .bad 7 (placeV L i) := by
        unfold blockW at hr
        rw [if_pos ⟨hd, hq⟩] at hr
        unfold badR at hr
        rw [if_pos hil] at hr
        exact (Option.some.inj hr).symm
      subst h3
      have hdI : (12 : Int) < (d : Int) := by omega
      clear h hs ih hr hq
      go_enter Tryz.func27, Tryz.ntmps27
      go_wp2_with fail
      go_region_held3 (fun w' => w'.cell? ⟨g, 0, none⟩ = some lv ∧ w'.cell? ⟨g, 1, none⟩ = some (.int .i64 i) ∧ Below w.heap.size w w')
        (first | exact ⟨c0, c1, Below.refl _ _⟩ | exact ⟨c0, c1, below_dr _⟩ | exact kept2 (w1 := w.drew) hgl ⟨c0, c1, below_dr _⟩ hb1)
        (first | (go_at_call 48; refine (is_at (s := [123]) HI.out lv _ ((HS.out.on (below_dr _)).toks HC.out)).mono ?_; rintro e w1 ⟨rfl, hb1⟩))
      have HB1 := Lib.hid (below_then (below_dr w) hb1)
      have HS1 := Lib.hid (HS.out.on HB1.out)
      clear hb1 c0 c1 hgl
      have hgl := HS1.out.lt
      have c2 := HS1.out.c2
      go_wp2_with fail
      refine (fail4 HC.out HS1.out 7).mono ?_
      rintro e w2 ⟨rfl, hs2, hk2⟩
      have HS2 := Lib.hid hs2
      have HK2 := Lib.hid hk2
      clear hs2 hk2
      go_wp2_with fail
      refine bodyPost_ret (v := .tuple #[.int .i64 0, .int .i64 7]) (by simp [results, Tryz.results27, go_sem]) rfl ?_
      exact ⟨rfl, by decide, HS2.out.bad, (KeepP.of (P := Mine g kv) HB1.out).trans HK2.out (fun _ _ h => h) (fun _ _ h => .inl h)⟩
    · obtain ⟨rr0, hrow0, hfin0⟩ := fin_begin hr hq (by omega)
      have HROW0 := Lib.hid hrow0
      have HFIN0 := Lib.hid hfin0
      have hdI : ¬ (12 : Int) < (d : Int) := by omega
      clear h hs ih hr hq hrow0 hfin0
      go_enter Tryz.func27, Tryz.ntmps27
      go_wp2_with fail
      go_region_held3 (fun w' => w'.cell? ⟨g, 0, none⟩ = some lv ∧ w'.cell? ⟨g, 1, none⟩ = some (.int .i64 i) ∧ Below w.heap.size w w')
        (first | exact ⟨c0, c1, Below.refl _ _⟩ | exact ⟨c0, c1, below_dr _⟩ | exact kept2 (w1 := w.drew) hgl ⟨c0, c1, below_dr _⟩ hb1)
        (first | (go_at_call 48; refine (is_at (s := [123]) HI.out lv _ ((HS.out.on (below_dr _)).toks HC.out)).mono ?_; rintro e w1 ⟨rfl, hb1⟩))
      have HB1 := Lib.hid (below_then (below_dr w) hb1)
      have HS1 := Lib.hid (HS.out.on HB1.out)
      clear hb1 c0 c1 hgl
      have hgl := HS1.out.lt
      have c1 := HS1.out.c1
      have c2 := HS1.out.c2
      have c4 := HS1.out.c4
      have f1 := HS1.out.fz 1
      have f2 := HS1.out.fz 2
      have hw1 : IntKind.i64.wrap ((i : Int) + 1) = (i : Int) + 1 := IntWalk.i64_in _ (by omega)
      have hw2 : IntKind.i64.wrap ((d : Int) + 1) = (d : Int) + 1 := IntWalk.i64_in _ (by omega)
      go_upto_region 8 with (fail)
      rw [show ((i : Int) + 1) = ((i + 1 : Nat) : Int) from by omega, show ((d : Int) + 1) = ((d + 1 : Nat) : Int) from by omega]
      have hs2 : St4 L W0 g lv (i + 1) (d + 1) l m pl K kv ((w1.setCell ⟨g, 1, none⟩ (.int .i64 ((i + 1 : Nat) : Int))).setCell ⟨g, 2, none⟩ (.int .i64 ((d + 1 : Nat) : Int))) := (HS1.out.set1 (by omega) (by omega)).set2 (by omega) (by omega)
      have hk2 : KeepP (Mine g kv) w ((w1.setCell ⟨g, 1, none⟩ (.int .i64 ((i + 1 : Nat) : Int))).setCell ⟨g, 2, none⟩ (.int .i64 ((d + 1 : Nat) : Int))) := ((KeepP.of (P := Mine g kv) HB1.out).trans KeepP.set (fun _ _ h => h) (fun _ _ h => .inl h)).trans KeepP.set (fun _ _ h => h) (fun _ _ h => .inl h)
      have HR0 : Hid (Round4 L W0 g lv d l m K kv w f r ((w1.setCell ⟨g, 1, none⟩ (.int .i64 ((i + 1 : Nat) : Int))).setCell ⟨g, 2, none⟩ (.int .i64 ((d + 1 : Nat) : Int)))) := Lib.hid ⟨f, i + 1, pl, [], kv, [], rr0, Nat.le_refl _, by simpa using hs2, by simp, Onward.refl _ _, hk2, by simp; omega, by omega, HROW0.out, HFIN0.out⟩
      generalize hW2 : (w1.setCell ⟨g, 1, none⟩ (.int .i64 ((i + 1 : Nat) : Int))).setCell ⟨g, 2, none⟩ (.int .i64 ((d + 1 : Nat) : Int)) = W2 at *
      clear hW2 hs2 hk2 c1 c2 c4 f1 f2 hw1 hw2 hgl HS1 HB1
      go_loopw [5] (fun _ wr => Round4 L W0 g lv d l m K kv w f r wr) (fun _ wr => L.length - (intOf (heldAt g 1 wr)).toNat)
      case atStart => exact HR0.out
      case round =>
        obtain ⟨f', i', pl', K', kv', pre, rr, hff, hst, hmp, hon, hkp, hmi', hil', hrow, hfin⟩ := hrel
        have HST := Lib.hid hst
        have HMP := Lib.hid hmp
        have HON := Lib.hid hon
        have HKP := Lib.hid hkp
        have HHE := Lib.hid (held_is hst.c1)
        have hgl := hst.lt
        have c0 := hst.c0
        have c1 := hst.c1
        clear hst hmp hon hkp
        cases hq : isB L i' [125] with
        | true =>
          obtain ⟨t, rfl, htf⟩ := fin_end hrow hfin hq
          have htc : pre.length = t.count := by rw [← flat_count, htf]
          have HI2 := Lib.hid hq
          have HTF := Lib.hid htf
          have hi2 := isB_lt hq
          have HTC := Lib.hid htc
          clear hrow hfin hq htf htc
          go_wp2_with fail
          go_region_held3 (fun w' => w'.cell? ⟨g, 0, none⟩ = some lv ∧ w'.cell? ⟨g, 1, none⟩ = some (.int .i64 i') ∧ Below wr.heap.size wr w')
            (first | exact ⟨c0, c1, Below.refl _ _⟩ | exact ⟨c0, c1, below_dr _⟩ | exact kept2 (w1 := wr.drew) hgl ⟨c0, c1, below_dr _⟩ hb3)
            (first | (go_at_call 48; refine (is_at (s := [125]) HI2.out lv _ ((HST.out.on (below_dr _)).toks HC.out)).mono ?_; rintro e w3 ⟨rfl, hb3⟩))
          have HB3 := Lib.hid (below_then (below_dr wr) hb3)
          have HS3 := Lib.hid (HST.out.on HB3.out)
          clear hb3 c0 c1 hgl
          have hgl := HS3.out.lt
          have c1 := HS3.out.c1
          have c2 := HS3.out.c2
          have c4 := HS3.out.c4
          have f1 := HS3.out.fz 1
          have f2 := HS3.out.fz 2
          have hw1 : IntKind.i64.wrap ((i' : Int) + 1) = (i' : Int) + 1 := IntWalk.i64_in _ (by omega)
          have hw2 : IntKind.i64.wrap (((d + 1 : Nat) : Int) - 1) = (d : Int) := by rw [IntWalk.i64_in _ (by omega)]; omega
          have hw4 : IntKind.i64.wrap (((m + pre.length : Nat) : Int) - (m : Int)) = (pre.length : Int) := by rw [IntWalk.i64_in _ (by omega)]; omega
          go_wp2_with fail
          refine bodyPost_ret (v := .tuple #[.int .i64 (pre.length : Nat), .int .i64 0]) (by simp [results, Tryz.results27, go_sem]; omega) rfl ?_
          have hs4 := (HS3.out.set1 (j := i' + 1) (by omega) (by omega)).set2 (j := d) (by omega) (by omega)
          refine ⟨by rw [HTC.out], ⟨pl', K', kv', by rw [← HTC.out]; exact hs4, by rw [HTF.out]; exact HMP.out, HON.out⟩, ?_⟩
          exact (((HKP.out.trans (KeepP.of (P := fun _ => False) HB3.out) (fun _ _ h => h) (fun _ _ h => h.elim)).trans KeepP.set (R := Mine g kv) (fun _ _ h => h) (fun _ _ h => .inl h))).trans KeepP.set (fun _ _ h => h) (fun _ _ h => .inl h)
        | false =>
          obtain ⟨f2, ro, rfl, hone, hro⟩ := fin_step hrow hfin hq
          have HI2 := Lib.hid hq
          have HONE := Lib.hid hone
          have hahead := fun o j (e : ro = .ok o j) => one_ahead (row_ahead L f2) (r := RS.ok o j) (by rw [← e]; exact hone)
          have hcount := fun o j (e : ro = .ok o j) => one_count (row_count L f2) (o := o) (j := j) (by rw [← e]; exact hone)
          have HOS : Hid (OneSays L W0 g lv (rowF L f2)) := Lib.hid (one_step HC.out (IH.out f2 (by omega)))
          have HRO := Lib.hid hro
          clear hrow hfin hq hone hro
          go_wp2_with fail
          go_region_held3 (fun w' => w'.cell? ⟨g, 0, none⟩ = some lv ∧ w'.cell? ⟨g, 1, none⟩ = some (.int .i64 i') ∧ Below wr.heap.size wr w')
            (first | exact ⟨c0, c1, Below.refl _ _⟩ | exact ⟨c0, c1, below_dr _⟩ | exact kept2 (w1 := wr.drew) hgl ⟨c0, c1, below_dr _⟩ hb3)
            (first | (go_at_call 48; refine (is_at (s := [125]) HI2.out lv _ ((HST.out.on (below_dr _)).toks HC.out)).mono ?_; rintro e w3 ⟨rfl, hb3⟩))
          have HB3 := Lib.hid (below_then (below_dr wr) hb3)
          have HS3 := Lib.hid (HST.out.on HB3.out)
          have HK3 : Hid (KeepP (Mine g kv) w w3) := Lib.hid (HKP.out.trans (KeepP.of (P := fun _ => False) HB3.out) (fun _ _ h => h) (fun _ _ h => h.elim))
          clear hb3 c0 c1 hgl
          cases ro with
          | bad er p =>
            obtain rfl : r = .bad er p := HRO.out
            clear HRO hahead hcount
            go_wp2_with fail
            refine (HOS.out i' d l (m + pre.length) pl' (K ++ K') kv' w3 _ HS3.out (by omega) hil' hll HONE.out).mono ?_
            rintro e w4 ⟨rfl, hne0, hba, hk4⟩
            have hz2 : (er != 0) = true := by simp [hne0]
            have HRES : Hid (BlockPost L W0 g lv d l m K kv w (.bad er p) (.returned (.tuple #[.int .i64 0, .int .i64 er])) w4) := Lib.hid ⟨rfl, hne0, hba, HK3.out.trans hk4 (fun _ _ h => h) (fun q hq h => Mine.onward HON.out q hq h)⟩
            clear hne0 hba hk4
            go_wp2_with fail
            refine bodyPost_ret (v := .tuple #[.int .i64 0, .int .i64 er]) (by simp [results, Tryz.results27, go_sem]) rfl ?_
            exact HRES.out
          | ok o j =>
            obtain ⟨rr', hrow', hfin'⟩ := HRO.out
            have ha := hahead o j rfl
            have hcn := hcount o j rfl
            have ha1 := ha.1
            have ha2 := ha.2
            have HROW' := Lib.hid hrow'
            have HFIN' := Lib.hid hfin'
            clear hahead hcount hrow' hfin' ha
            go_wp2_with fail
            refine (HOS.out i' d l (m + pre.length) pl' (K ++ K') kv' w3 _ HS3.out (by omega) hil' hll HONE.out).mono ?_
            rintro e w4 ⟨rfl, ⟨pl4, K4, kv4, hs4, hm4, ho4⟩, hk4⟩
            have hpl : (pre ++ (o.s :: (o.b.flat ++ o.e.flat))).length = pre.length + 1 + o.b.count + o.e.count := by simp only [List.length_append, List.length_cons, flat_count]; omega
            have HREL : Hid (Round4 L W0 g lv d l m K kv w f r w4) := Lib.hid ⟨f2, j, pl4, K' ++ K4, kv4, pre ++ (o.s :: (o.b.flat ++ o.e.flat)), rr', by omega, by rw [hpl, ← List.append_assoc, show m + (pre.length + 1 + o.b.count + o.e.count) = m + pre.length + 1 + o.b.count + o.e.count from by omega]; exact hs4, rows_join HMP.out (by rw [hm4, List.length_append]; congr 1; omega), HON.out.trans ho4 HK3.out.size, HK3.out.trans hk4 (fun _ _ h => h) (fun q hq h => Mine.onward HON.out q hq h), by rw [hpl]; omega, ha2, HROW'.out, HFIN'.out⟩
            have HME : Hid (L.length - (intOf (heldAt g 1 w4)).toNat < L.length - (intOf (heldAt g 1 wr)).toNat) := Lib.hid (by rw [HHE.out, held_is hs4.c1]; show L.length - ((j : Int)).toNat < L.length - ((i' : Int)).toNat; omega)
            clear hs4 hm4 ho4 hk4 hpl
            go_wp2_with fail
            go_roundw
            case rel =>
              repeat apply Exists.intro
              exact ⟨HREL.out, rfl⟩
            case measure => exact HME.out
theorem block_all (hs : Src L W0 lv) : ∀ f, BlockSays L W0 g lv (rowF L f) := fun f => Nat.strongRecOn f fun f ih => block_step hs f ih
/-- A row of statements that is the call's own. -/
def OwnS (w : World) (B : Nat) (v : Value) (M : List Stm) : Prop := ∃ K : List Sv, K.map (·.s) = M ∧ w.ownsRow B 31 9 v K.length (cellsV K) ∧ ∀ x ∈ K, ReadE B w x.vE x.s.e ∧ ReadE B w x.vF x.s.f
theorem ownS_nil (w : World) (B : Nat) : OwnS w B (.slice none 0 0) [] := ⟨[], rfl, ⟨rfl, .inl ⟨rfl, rfl⟩⟩, fun x h => by cases h⟩
/-- What Parse comes back with. -/
def GivesSt (r : ParsedS) (w : World) (e : Ending) (w' : World) : Prop := ∃ v, e = .returned (.tuple #[v, .int .i64 r.to, .int .i64 r.err, .int .i64 r.pl]) ∧ OwnS w' w.heap.size v r.stmts ∧ Below w.heap.size w w'
theorem stmtV_nat (L : List Tok) (i : Nat) : stmtV L i = stmtR L i (blockR L i 0 0) := by
  unfold stmtV; rw [if_neg (by omega), Int.toNat_natCast]
theorem blockR_bad {er p : Int} (h : blockR L i 0 0 = .bad er p) : stmtV L i = ⟨[], 0, er, p⟩ := by rw [stmtV_nat, h]; rfl
theorem blockR_big {t : Bk} {j : Nat} (h : blockR L i 0 0 = .ok t j) (hc : 40 < t.count) : stmtV L i = ⟨[], 0, 2, placeV L i⟩ := by rw [stmtV_nat, h]; show (if 40 < t.count then _ else _) = _; rw [if_pos hc]
theorem blockR_ok {t : Bk} {j : Nat} (h : blockR L i 0 0 = .ok t j) (hc : ¬ 40 < t.count) : stmtV L i = ⟨t.flat, j, 0, 0⟩ := by rw [stmtV_nat, h]; show (if 40 < t.count then _ else _) = _; rw [if_neg hc]
theorem BadAt.cell6 {p : Int} (h : BadAt g lv p w) : w.cell? ⟨g, 6, none⟩ = some (.int .i64 p) ∧ g < w.heap.size := by
  obtain ⟨a, b, c, d, e, h⟩ := h
  exact ⟨by rw [Lib.cell_of_heap h]; rfl, (Array.getElem?_eq_some_iff.1 h).1⟩
set_option maxRecDepth 100000 in
set_option maxHeartbeats 4000000 in
theorem sparse_any (v : Value) (L : List Tok) (i : Int) (w : World) (h : ReadT w v L) (ht : Tabs w) (hl : L.length ≤ 10000) (hsm : SmallT L) : Calls Tryz.prog 12 #[v, .int .i64 i] w (GivesSt (stmtV L i) w) := by
  have HSRC : Hid (Src L w v) := Lib.hid ⟨h, ht, hl, hsm⟩
  have HRT := Lib.hid h
  by_cases hi : i < 0
  · have HV : Hid (stmtV L i = ⟨[], 0, 1, 0⟩) := Lib.hid (by unfold stmtV; rw [if_pos hi])
    clear h ht hsm
    go_enter Tryz.func12, Tryz.ntmps12
    go_wp2_with fail
    refine bodyPost_ret (v := .tuple #[.slice none 0 0, .int .i64 0, .int .i64 1, .int .i64 0]) (by simp [results, Tryz.results12, go_sem]) rfl ?_
    rw [HV.out]
    exact ⟨_, rfl, ownS_nil _ _, Below.refl _ _⟩
  obtain ⟨n, rfl⟩ : ∃ n : Nat, i = n := ⟨i.toNat, by omega⟩
  have hw : St4 L w w.heap.size v n 0 0 0 0 [] (.slice none 0 0) (w.alloc (.cells #[v, .int .i64 n, .int .i64 0, .int .i64 0, .int .i64 0, .slice none 0 0, .int .i64 0] 55)) :=
    ⟨(Below.refl _ _).alloc (Nat.le_refl _) _, Nat.le_refl _, heap_alloc_new w _, ⟨rfl, .inl ⟨rfl, rfl⟩⟩, fun x h => by (cases h), rfl, .inr rfl, Nat.zero_le _, by omega, Nat.le_refl _⟩
  have HST := Lib.hid hw
  have HBS := Lib.hid (block_all (g := w.heap.size) HSRC.out (L.length + 1) n 0 0 0 0 [] (.slice none 0 0) _ _ hw (blockR_some L n 0 0))
  have HLO : Hid (∀ k, k < w.heap.size → ¬ Mine w.heap.size (.slice none 0 0) k) := Lib.hid hw.mine_low
  clear h ht hsm hw
  obtain ⟨A, c, rfl, _, _⟩ := HRT.out
  generalize hW : w.alloc (.cells #[.slice A L.length c, .int .i64 n, .int .i64 0, .int .i64 0, .int .i64 0, .slice none 0 0, .int .i64 0] 55) = W at *
  cases hb : blockR L n 0 0 with
  | bad er p =>
    have HV := Lib.hid (blockR_bad hb)
    rw [hb] at HBS
    clear hb
    go_enter Tryz.func12, Tryz.ntmps12
    go_wp2_with fail
    refine HBS.out.mono ?_
    rintro e w1 ⟨rfl, hne0, hba, hk⟩
    have hz2 : (er != 0) = true := by simp [hne0]
    have HB1 : Hid (Below w.heap.size w w1) := Lib.hid (HST.out.low.trans (hk.below HLO.out HST.out.low.size))
    obtain ⟨c6, hgl⟩ := hba.cell6
    clear hba hk hne0 hW
    go_wp2_with fail
    go_quiet (fail)
    go_wp2_with fail
    refine bodyPost_ret (v := .tuple #[.slice none 0 0, .int .i64 0, .int .i64 er, .int .i64 p]) (by simp [results, Tryz.results12, go_sem]) rfl ?_
    rw [HV.out]
    exact ⟨_, rfl, ownS_nil _ _, HB1.out.trans (Below.mono (below_drew1 _ _) HB1.out.size)⟩
  | ok t j =>
    rw [hb] at HBS
    by_cases hc : 40 < t.count
    · have HV := Lib.hid (blockR_big hb hc)
      have hcI : (40 : Int) < (t.count : Int) := by omega
      clear hb
      go_enter Tryz.func12, Tryz.ntmps12
      go_wp2_with fail
      refine HBS.out.mono ?_
      rintro e w1 ⟨rfl, _, hk⟩
      have HB1 : Hid (Below w.heap.size w w1) := Lib.hid (HST.out.low.trans (hk.below HLO.out HST.out.low.size))
      clear hk hW
      go_wp2_with fail
      refine (place_any (.slice A L.length c) L n _ (HRT.out.on HB1.out) HSRC.out.len HSRC.out.small).mono ?_
      rintro e w2 ⟨rfl, hb2⟩
      have HB2 := Lib.hid (below_then HB1.out hb2)
      clear hb2
      go_wp2_with fail
      refine bodyPost_ret (v := .tuple #[.slice none 0 0, .int .i64 0, .int .i64 2, .int .i64 (placeV L n)]) (by simp [results, Tryz.results12, go_sem]) rfl ?_
      rw [HV.out]
      exact ⟨_, rfl, ownS_nil _ _, HB2.out⟩
    · have HV := Lib.hid (blockR_ok hb hc)
      have hcI : ¬ (40 : Int) < (t.count : Int) := by omega
      have hfl := flat_count t
      clear hb
      go_enter Tryz.func12, Tryz.ntmps12
      go_wp2_with fail
      refine HBS.out.mono ?_
      rintro e w1 ⟨rfl, ⟨pl', K', kv', hs1, hm1, _⟩, hk⟩
      have HB1 : Hid (Below w.heap.size w w1) := Lib.hid (HST.out.low.trans (hk.below HLO.out HST.out.low.size))
      have HS1 := Lib.hid hs1
      have HM1 : Hid (K'.map (·.s) = t.flat) := Lib.hid (by rw [hm1]; exact List.take_of_length_le (by simp; omega))
      have hgl := hs1.lt
      have c5 := hs1.c5
      have c1 := hs1.c1
      clear hk hW hs1 hm1 hfl
      go_wp2_with fail
      go_quiet (fail)
      go_wp2_with fail
      refine bodyPost_ret (v := .tuple #[kv', .int .i64 j, .int .i64 0, .int .i64 0]) (by simp [results, Tryz.results12, go_sem]) rfl ?_
      rw [HV.out]
      have hb5 := below_drew1 w1 nq
      have hs5 := HS1.out.on hb5
      refine ⟨_, rfl, ⟨K', HM1.out, by simpa using hs5.row, fun x hx => hs5.rds x (by simpa using hx)⟩, below_then HB1.out hb5⟩
end
end Go.Proofs.YtpeohfgadnfnpaaGreatDoor
/-
  DERIVED. Layer 3: contracts of the document's answers: leadlineref01.Text (from 0 on), leadlineref03's sign.
-/
namespace Go.Proofs.YtpeohfgadnfnpaaGreatDoor
open Go.RowKit
theorem conv_dig (n : Int) (h0 : 0 ≤ n) (h1 : n < 10) (w : World) : (convert 85 9 (.slice (some ⟨w.heap.size, 0, none⟩) 1 1)).run Tryz.prog (w.alloc (.cells #[.int .u8 (48 + n)] 5)) = .ok (.string ⟨(Lib.decDigits n.toNat).toArray⟩) (w.alloc (.cells #[.int .u8 (48 + n)] 5)) := by
  obtain ⟨k, rfl⟩ : ∃ k : Nat, n = (k : Int) := ⟨n.toNat, by omega⟩
  have hk : k < 10 := by omega
  have h := run_convert_bytes_back (P := Tryz.prog) (w.alloc (.cells #[.int .u8 (48 + (k : Int))] 5)) 85 9 5 ⟨w.heap.size, 0, none⟩ 1 [UInt8.ofNat (48 + k)] Tryz.underlying85 Tryz.underlying5 Tryz.underlying9 (fun j hj => by
    obtain rfl : j = 0 := by simp at hj; omega
    show (w.alloc (.cells #[.int .u8 (48 + (k : Int))] 5 _)).cell? ⟨w.heap.size, 0, none⟩ = _
    rw [World.cell?_alloc_mark]
    show some (Value.int .u8 (48 + (k : Int))) = some (.int .u8 ((UInt8.ofNat (48 + k)).toNat : Int))
    rw [(dig_of hk).2]; simp)
  rw [Int.toNat_natCast, dec_small hk]
  exact h

set_option maxHeartbeats 2000000 in
theorem rtext_dig (n : Int) (w : World) (h0 : 0 ≤ n) (h1 : n < 10) :
    Calls Tryz.prog 99 #[.int .i64 n] w fun e w' => e = .returned (.string ⟨(Lib.decDigits n.toNat).toArray⟩) ∧ Below w.heap.size w w' := by
  have hc := conv_dig n h0 h1
  generalize Lib.decDigits n.toNat = l at *
  go_enter Tryz.func99, Tryz.ntmps99
  go_wp2_with fail
  go_ret
  exact ⟨rfl, (Below.refl _ _).alloc (Nat.le_refl _) _⟩

theorem dec_len (n : Int) (h0 : 0 ≤ n) (h1 : n < 10) : (Lib.decDigits n.toNat).length ≤ 21 := by
  rw [dec_small (by omega)]; simp
theorem itoa_pos (n : Int) (h : 10 ≤ n) : Lib.itoa (n / 10) ++ Lib.decDigits (n % 10).toNat = Lib.itoa n := by
  obtain ⟨u, rfl⟩ : ∃ u : Nat, n = (u : Int) := ⟨n.toNat, by omega⟩
  rw [show (u : Int) / 10 = ((u / 10 : Nat) : Int) from by omega, show (u : Int) % 10 = ((u % 10 : Nat) : Int) from by omega, Int.toNat_natCast, Lib.itoa_nonneg, Lib.itoa_nonneg, dec_step (by omega : ¬ u < 10), dec_small (by omega : u % 10 < 10)]
def RText (n : Int) (w : World) (e : Ending) (w' : World) : Prop := e = .returned (.string ⟨(Lib.itoa n).toArray⟩) ∧ Below w.heap.size w w'
theorem rtext_of {n : Int} {w w' : World} {e : Ending} {l : List UInt8} (he : e = .returned (.string ⟨l.toArray⟩)) (h : l = Lib.itoa n) (hb : Below w.heap.size w w') : RText n w e w' := by
  subst h; exact ⟨he, hb⟩

set_option maxHeartbeats 2000000 in
theorem rtext_pos (n : Int) (w : World) (h1 : 10 ≤ n) (h2 : n ≤ 9223372036854775807) (ih : Hid (∀ w, Calls Tryz.prog 99 #[.int .i64 (n / 10)] w (RText (n / 10) w))) :
    Calls Tryz.prog 99 #[.int .i64 n] w (RText n w) := by
  have HI := Lib.hid (itoa_pos n h1)
  go_enter Tryz.func99, Tryz.ntmps99
  go_wp2_with fail
  refine (ih.out _).mono ?_; rintro e w1 ⟨rfl, hb⟩
  have g1 := Lib.itoa_length_le (n / 10) (by omega) (by omega)
  have g2 := dec_len (n % 10) (by omega) (by omega)
  generalize Lib.itoa (n / 10) = l1 at *
  go_wp2_with fail
  refine (rtext_dig (n % 10) _ (by omega) (by omega)).mono ?_; rintro e w2 ⟨rfl, hc⟩; replace hb := below_then hb hc; clear hc w1
  generalize Lib.decDigits (n % 10).toNat = l2 at *
  go_wp2
  go_ret
  exact rtext_of rfl HI.out hb


theorem rtext_any : ∀ (m : Nat) (n : Int), n.natAbs = m → 0 ≤ n → n ≤ 9223372036854775807 → ∀ w, Calls Tryz.prog 99 #[.int .i64 n] w (RText n w) := by
  intro m
  induction m using Nat.strongRecOn with
  | _ m ih =>
    intro n hm hp h1 w
    by_cases hs : n < 10
    · refine (rtext_dig n w hp hs).mono ?_
      rintro e w' ⟨he, hb⟩
      refine rtext_of he ?_ hb
      obtain ⟨u, rfl⟩ : ∃ u : Nat, n = (u : Int) := ⟨n.toNat, by omega⟩
      rw [Lib.itoa_nonneg]; simp
    · exact rtext_pos n w (by omega) h1 (Lib.hid (ih (n / 10).natAbs (by omega) (n / 10) rfl (by omega) (by omega)))

set_option maxRecDepth 100000 in
set_option maxHeartbeats 4000000 in
theorem rsign3_any (op : Int) (h0 : 3 ≤ op) (h1 : op ≤ 15) (w : World) : Calls Tryz.prog 139 #[.int .i64 op] w (GivesSB (signT op.toNat) w) := by
  have h : op = 3 ∨ op = 4 ∨ op = 5 ∨ op = 6 ∨ op = 7 ∨ op = 8 ∨ op = 9 ∨ op = 10 ∨ op = 11 ∨ op = 12 ∨ op = 13 ∨ op = 14 ∨ op = 15 := by omega
  clear h0 h1
  rcases h with rfl | rfl | rfl | rfl | rfl | rfl | rfl | rfl | rfl | rfl | rfl | rfl | rfl <;> (go_enter Tryz.func139, Tryz.ntmps139; go_wp2_with fail; go_ret; exact ⟨rfl, (Below.refl _ _).alloc (Nat.le_refl _) _⟩)
end Go.Proofs.YtpeohfgadnfnpaaGreatDoor
