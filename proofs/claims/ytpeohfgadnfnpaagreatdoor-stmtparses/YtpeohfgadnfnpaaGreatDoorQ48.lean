/-
  DERIVED. Texts of the walk, packed: DBlock, DPars.
-/
import Derived.Test.YtpeohfgadnfnpaaGreatDoorQ47
/-
  DERIVED. Layer 4: the contract of the document's reader's block (leadlineref04).
-/
namespace Go.Proofs.YtpeohfgadnfnpaaGreatDoor
open Go.RowKit

section
variable {L : List Tok} {W0 : World} {g : Nat} {lv : Value} {t : RS Unit} {K : List Sv} {kv : Value} {w : World}
/-- How far a block is read, behind its first sign. -/
def DStands (L : List Tok) (f d l : Nat) (m : Nat) (r : RS Bk) (pre : List Stm) : RS Unit → Prop
  | .bad e p => r = .bad e p
  | .ok _ i => ∃ f' rr, f' ≤ f ∧ d ≤ 12 ∧ m + pre.length + 1 ≤ i ∧ i ≤ L.length ∧ rowF L f' i d l = some rr ∧ Fin4 L pre rr r
def DRound (L : List Tok) (W0 : World) (g : Nat) (lv : Value) (d l : Nat) (K : List Sv) (kv : Value) (w : World) (f : Nat) (r : RS Bk) (wr : World) : Prop :=
  ∃ (t : RS Unit) (K' : List Sv) (kv' : Value) (pre : List Stm), Sr L W0 g lv t (K ++ K') kv' wr ∧ DStands L f d l K.length r pre t ∧ (∀ u i, t = .ok u i → K'.map (·.s) = pre) ∧ Onward kv kv' w ∧ KeepP (Mine g kv) w wr
/-- How much is left of it. -/
def leftD (L : List Tok) (g : Nat) (w : World) : Nat := if intOf (heldAt g 2 w) = 0 then L.length + 1 - (intOf (heldAt g 1 w)).toNat else 0
theorem left_ok {i : Nat} (h : Sr L W0 g lv (.ok () i) K kv w) : leftD L g w = L.length + 1 - i := by
  obtain ⟨pos, _, hp⟩ := h.okc
  unfold leftD
  rw [held_is hp.c2, if_pos (by simp [intOf]), held_is hp.c1]
  simp [intOf]
theorem left_bad {e p : Int} (h : Sr L W0 g lv (.bad e p) K kv w) : leftD L g w = 0 := by
  obtain ⟨j, _, hp, hne⟩ := h.badc
  unfold leftD
  rw [held_is hp.c2, if_neg]
  simp [intOf, hne]
/-- What stands behind a block's first sign. -/
theorem stands_begin {f i0 d l : Nat} {er pos : Int} {r : RS Bk} {m : Nat} (hst : Stands t i0 er pos) (hm : ∀ u i, t = .ok u i → m ≤ i ∧ i0 = i) (hr : RS.obind (some t) (fun _ i => blockW (rowF L f) L i d l) = some r) :
    DStands L f d l m r [] ((if (decide (12 < d) && isB L i0 [123]) = true then t.bind (fun _ i => (badR L i 7 : RS Unit)) else t).bind fun _ i => mustP L i [123]) := by
  cases t with
  | bad e p =>
    have h : r = .bad e p := (Option.some.inj hr).symm
    split
    · exact h
    · exact h
  | ok u i =>
    obtain ⟨h1, rfl⟩ := hm u i rfl
    rw [RS.obind_ok] at hr
    by_cases hq : (decide (12 < d) && isB L i0 [123]) = true
    · rw [if_pos hq]
      simp only [Bool.and_eq_true, decide_eq_true_eq] at hq
      unfold blockW at hr
      rw [if_pos hq] at hr
      have h : r = badR L i0 7 := (Option.some.inj hr).symm
      simp only [RS.bind_ok]
      unfold badR
      exact h
    · rw [if_neg hq]
      simp only [Bool.and_eq_true, decide_eq_true_eq] at hq
      simp only [RS.bind_ok]
      cases hb : isB L i0 [123] with
      | false =>
        unfold blockW at hr
        rw [if_neg hq] at hr
        have hmu : mustP L i0 [123] = badR L i0 5 := by unfold mustP; rw [if_neg (by rw [hb]; simp)]
        rw [hmu] at hr ⊢
        exact (Option.some.inj hr).symm
      | true =>
        have hd : d ≤ 12 := by
          rcases Nat.lt_or_ge 12 d with h | h
          · exact absurd ⟨h, hb⟩ hq
          · exact h
        obtain ⟨rr, g1, g2⟩ := fin_begin hr hb hd
        have hmu : mustP L i0 [123] = .ok () (i0 + 1) := mustP_is hb
        rw [hmu]
        have := isB_lt hb
        exact ⟨f, rr, Nat.le_refl _, hd, by simp only [List.length_nil]; omega, by omega, g1, g2⟩
set_option maxRecDepth 100000 in
set_option maxHeartbeats 16000000 in
theorem dblock_step (hs : Src L W0 lv) (f : Nat) (ih : ∀ f', f' < f → DBlockSays L W0 g lv (rowF L f')) : DBlockSays L W0 g lv (rowF L f) := by
  intro t d l K kv w r h hbeg hd hl hr
  have HS := Lib.hid h
  have HC := Lib.hid hs
  have IH := Lib.hid ih
  have hlen := hs.len
  obtain ⟨i0, er, pos, hb, hst⟩ := h.blk
  have HST := Lib.hid hst
  have hgl := h.lt
  obtain ⟨AK, cK, hkv⟩ := row_slice9 h.row
  have HKV := Lib.hid hkv
  obtain ⟨q, hq⟩ : ∃ q, isB L i0 [123] = q := ⟨_, rfl⟩
  have HI := Lib.hid hq
  have HDS := Lib.hid (stands_begin (f := f) (m := K.length) (d := d) (l := l) (r := r) hst (fun u i e => by
    refine ⟨(hbeg u i e).1, ?_⟩
    subst e
    exact hst.1) hr)
  rw [hq] at HDS
  rw [hkv] at hb
  obtain ⟨_, c0, c1, c2, c3, c4, f1, f2, f3, f4⟩ := p5d_of hb
  clear h hs ih hr hb hst hkv hq hbeg
  go_enter Tryz.func26, Tryz.ntmps26
  go_upto_region 2 with (fail)
  go_cut [25] from 13 to 25 (fun c wx => c = .bool (decide (12 < d) && q) ∧ Below w.heap.size w wx)
  case first =>
    by_cases hd12 : 12 < d
    · have hdI : (12 : Int) < (d : Int) := by omega
      have hdB : decide ((12 : Int) < (d : Int)) = true := by simp; omega
      have HDD : Hid (decide (12 < d) = true) := Lib.hid (by simp; omega)
      clear hd12
      go_wp2_with fail
      go_region_held3 (fun w' => w'.cell? ⟨g, 0, none⟩ = some lv ∧ w'.cell? ⟨g, 1, none⟩ = some (.int .i64 i0) ∧ Below w.heap.size w w')
        (first | exact ⟨c0, c1, Below.refl _ _⟩ | exact ⟨c0, c1, below_dr _⟩ | exact kept2 (w1 := w.drew) hgl ⟨c0, c1, below_dr _⟩ hb1)
        (first | (go_at_call 44; refine (ris_at (s := [123]) HI.out lv _ ((HS.out.on (below_dr _)).toks HC.out)).mono ?_; rintro e w1 ⟨rfl, hb1⟩))
      go_wp2_with fail
      go_meet
      case rel => exact ⟨by rw [HDD.out]; simp, below_then (below_dr w) hb1⟩
    · have hdI : ¬ (12 : Int) < (d : Int) := by omega
      have hdB : decide ((12 : Int) < (d : Int)) = false := by simp; omega
      have HDD : Hid (decide (12 < d) = false) := Lib.hid (by simp; omega)
      clear hd12
      go_wp2_with fail
      go_quiet (fail)
      go_wp2_with fail
      go_meet
      case rel => exact ⟨by rw [HDD.out]; simp, below_drew1 _ _⟩
  case rest =>
    obtain ⟨rfl, hb1⟩ := hcut
    obtain ⟨qq, hqq⟩ : ∃ qq, (decide (12 < d) && q) = qq := ⟨_, rfl⟩
    rw [hqq] at HDS ⊢
    have HS1 := Lib.hid (HS.out.on hb1)
    have HB1 := Lib.hid (KeepP.of (P := fun k => k = g) hb1)
    clear hb1 hqq c0 c1 c2 c3 c4 f1 f2 f3 f4
    go_upto_if 25 with (fail)
    go_cut [25] from 26 to 27 (fun _ wx => Sr L W0 g lv (if qq = true then t.bind (fun _ i => (badR L i 7 : RS Unit)) else t) K (.slice AK K.length cK) wx ∧ KeepP (fun k => k = g) w wx)
    case first =>
      cases qq with
      | true =>
        go_wp2_with fail
        refine (dbad HC.out HS1.out (er := 7) (by decide)).mono ?_
        rintro e1 w1 ⟨rfl, hs1, hk1⟩
        have HS2 := Lib.hid hs1
        have HK2 := Lib.hid (HB1.out.same hk1)
        clear hs1 hk1
        go_wp2_with fail
        go_meet
        case rel => exact ⟨by rw [← HKV.out]; simpa using HS2.out, HK2.out⟩
      | false =>
        go_wp2_with fail
        go_meet
        case rel => exact ⟨by rw [← HKV.out]; simpa using HS1.out, HB1.out⟩
    case rest =>
      obtain ⟨hs2, hk2⟩ := hcut
      have HS2 := Lib.hid hs2
      have HK2 := Lib.hid hk2
      clear hs2 hk2 HS1 HB1
      go_wp2_with fail
      refine (dmust HC.out HS2.out [123]).mono ?_
      rintro e3 w3 ⟨rfl, hs3, hk3⟩
      have HR0 : Hid (DRound L W0 g lv d l K kv w f r w3) := Lib.hid ⟨_, [], kv, [], by rw [List.append_nil, HKV.out]; exact hs3, HDS.out, fun _ _ _ => rfl, Onward.refl _ _, (HK2.out.same hk3).mono fun _ _ h => .inl h⟩
      clear hs3 hk3 HDS HS2 HK2
      go_wp2_with fail
      go_loopw [46] (fun _ wr => DRound L W0 g lv d l K kv w f r wr) (fun _ wr => leftD L g wr)
      case atStart => exact HR0.out
      case round =>
        obtain ⟨t9, K', kv', pre, hst9, hds, hmp, hon, hkp⟩ := hrel
        have HST9 := Lib.hid hst9
        have HMP := Lib.hid hmp
        have HON := Lib.hid hon
        have HKP := Lib.hid hkp
        have hgl9 := hst9.lt
        clear hst9 hmp hon hkp
        cases t9 with
        | bad e p =>
          obtain rfl : r = .bad e p := hds
          obtain ⟨A9, cc9, hkv9⟩ := row_slice9 HST9.out.row
          obtain ⟨j, hbj, _, hne⟩ := HST9.out.badc
          have HKV9 := Lib.hid hkv9
          rw [hkv9] at hbj
          obtain ⟨_, c0, c1, c2, c3, c4, f1, f2, f3, f4⟩ := p5d_of hbj
          have hz : (e == 0) = false := by simp [hne]
          clear hbj hne hkv9
          go_wp2_with fail
          go_quiet (fail)
          have HS3 := Lib.hid (HST9.out.on (below_drew1 _ nq))
          have HK3 : Hid (KeepP (Mine g kv) w (wr.drewN nq)) := Lib.hid (HKP.out.trans (KeepP.of (P := fun _ => False) (below_drew1 wr nq)) (fun _ _ h => h) (fun _ _ h => h.elim))
          clear c0 c1 c2 c3 c4 f1 f2 f3 f4
          go_wp2_with fail
          refine (dmust HC.out HS3.out [125]).mono ?_
          rintro e4 w4 ⟨rfl, hs4, hk4⟩
          have HS4 := Lib.hid hs4
          have HK4 : Hid (KeepP (Mine g kv) w w4) := Lib.hid (HK3.out.trans hk4 (fun _ _ h => h) (fun _ _ h => .inl h))
          obtain ⟨j4, hbj4, _, _⟩ := Sr.badc (show Sr L W0 g lv (.bad e p) (K ++ K') kv' w4 from hs4)
          rw [HKV9.out] at hbj4
          obtain ⟨hgl4, c0, c1, c2, c3, c4, f1, f2, f3, f4⟩ := p5d_of hbj4
          obtain ⟨zz, hzz⟩ : ∃ zz : Int, IntKind.i64.wrap (((K ++ K').length : Int) - (K.length : Int)) = zz := ⟨_, rfl⟩
          obtain ⟨NN, hNN⟩ : ∃ NN, (K ++ K').length = NN := ⟨_, rfl⟩
          rw [hNN] at c4 hzz
          clear hs4 hk4 hbj4 hNN
          go_wp2_with fail
          refine bodyPost_ret (v := .int .i64 zz) (by simp [results, Tryz.results26, go_sem]) rfl ?_
          exact ⟨zz, K', kv', rfl, HS4.out, fun b j e => (by cases e), HON.out, HK4.out⟩
        | ok u i =>
          obtain ⟨f', rr, hff, hd12, hmi, hil, hrow, hfin⟩ := hds
          obtain rfl : K'.map (·.s) = pre := HMP.out u i rfl
          obtain ⟨pos9, hb9, ⟨_, c0, c1, c2, c3, c4, f1, f2, f3, f4⟩⟩ := HST9.out.okc
          cases hq : isB L i [125] with
          | true =>
            obtain ⟨tt, rfl, htf⟩ := fin_end hrow hfin hq
            have HI2 := Lib.hid hq
            have hi2 := isB_lt hq
            have HTF := Lib.hid htf
            have HTC : Hid (K'.length = tt.count) := Lib.hid (by rw [← flat_count, htf, List.length_map])
            clear hrow hfin hq htf hb9
            go_wp2_with fail
            go_region_held3 (fun w' => w'.cell? ⟨g, 0, none⟩ = some lv ∧ w'.cell? ⟨g, 1, none⟩ = some (.int .i64 i) ∧ w'.cell? ⟨g, 2, none⟩ = some (.int .i64 0) ∧ Below wr.heap.size wr w')
              (first | exact ⟨c0, c1, c2, Below.refl _ _⟩ | exact ⟨c0, c1, c2, below_dr _⟩ | exact kept3d (w1 := wr.drew) hgl9 ⟨c0, c1, c2, below_dr _⟩ hb3)
              (first | (go_at_call 44; refine (ris_at (s := [125]) HI2.out lv _ ((HST9.out.on (below_dr _)).toks HC.out)).mono ?_; rintro e w3 ⟨rfl, hb3⟩))
            have hb3' := below_then (below_dr wr) hb3
            have HS3 := Lib.hid (HST9.out.on hb3')
            have HK3 : Hid (KeepP (Mine g kv) w w3) := Lib.hid (HKP.out.trans (KeepP.of (P := fun _ => False) hb3') (fun _ _ h => h) (fun _ _ h => h.elim))
            clear hb3 hb3' c0 c1 c2 c3 c4 f1 f2 f3 f4
            go_wp2_with fail
            refine (dmust HC.out HS3.out [125]).mono ?_
            rintro e4 w4 ⟨rfl, hs4, hk4⟩
            have hs4' : Sr L W0 g lv (.ok () (i + 1)) (K ++ K') kv' w4 := by
              have := hs4
              simp only [RS.bind_ok] at this
              rw [mustP_is HI2.out] at this
              exact this
            have HS4 := Lib.hid hs4'
            have HK4 : Hid (KeepP (Mine g kv) w w4) := Lib.hid (HK3.out.trans hk4 (fun _ _ h => h) (fun _ _ h => .inl h))
            obtain ⟨A9, cc9, hkv9⟩ := row_slice9 hs4'.row
            obtain ⟨pos4, hbj4, _⟩ := hs4'.okc
            rw [hkv9] at hbj4
            obtain ⟨hgl4, c0, c1, c2, c3, c4, f1, f2, f3, f4⟩ := p5d_of hbj4
            obtain ⟨NN, hNN⟩ : ∃ NN, (K ++ K').length = NN := ⟨_, rfl⟩
            have hNK : NN = K.length + tt.count := by rw [← hNN, List.length_append, HTC.out]
            have hmi' : K.length + tt.count + 1 ≤ i := by have := hmi; rw [List.length_map, HTC.out] at this; exact this
            rw [hNN] at c4
            have hzz : IntKind.i64.wrap ((NN : Int) - (K.length : Int)) = (tt.count : Int) := by rw [IntWalk.i64_in _ (by omega)]; omega
            clear hs4 hs4' hk4 hbj4 hNN hNK hkv9
            go_wp2_with fail
            refine bodyPost_ret (v := .int .i64 (tt.count : Nat)) (by simp [results, Tryz.results26, go_sem]) rfl ?_
            exact ⟨_, K', kv', rfl, HS4.out, fun b j e => by (simp only [RS.ok.injEq] at e; rw [← e.1]; exact ⟨rfl, HTF.out.symm⟩), HON.out, HK4.out⟩
          | false =>
            obtain ⟨f2', ro, rfl, hone, hro⟩ := fin_step hrow hfin hq
            have HI2 := Lib.hid hq
            have HONE := Lib.hid hone
            have hahead := fun o j (e : ro = .ok o j) => one_ahead (row_ahead L f2') (r := RS.ok o j) (by rw [← e]; exact hone)
            have hcount := fun o j (e : ro = .ok o j) => one_count (row_count L f2') (o := o) (j := j) (by rw [← e]; exact hone)
            have HOS : Hid (DOneSays L W0 g lv (rowF L f2')) := Lib.hid (done_step (row_ahead L f2') (row_count L f2') HC.out (IH.out f2' (by omega)))
            have HRO := Lib.hid hro
            have HAH := Lib.hid hahead
            have HCO := Lib.hid hcount
            have hlK : (K ++ K').length ≤ i := by rw [List.length_append]; rw [List.length_map] at hmi; omega
            have HLE := Lib.hid (left_ok HST9.out)
            have HMI := Lib.hid hmi
            clear hrow hfin hq hone hro hahead hcount hb9
            go_wp2_with fail
            go_region_held3 (fun w' => w'.cell? ⟨g, 0, none⟩ = some lv ∧ w'.cell? ⟨g, 1, none⟩ = some (.int .i64 i) ∧ w'.cell? ⟨g, 2, none⟩ = some (.int .i64 0) ∧ Below wr.heap.size wr w')
              (first | exact ⟨c0, c1, c2, Below.refl _ _⟩ | exact ⟨c0, c1, c2, below_dr _⟩ | exact kept3d (w1 := wr.drew) hgl9 ⟨c0, c1, c2, below_dr _⟩ hb3)
              (first | (go_at_call 44; refine (ris_at (s := [125]) HI2.out lv _ ((HST9.out.on (below_dr _)).toks HC.out)).mono ?_; rintro e w3 ⟨rfl, hb3⟩))
            have hb3' := below_then (below_dr wr) hb3
            have HS3 := Lib.hid (HST9.out.on hb3')
            have HK3 : Hid (KeepP (Mine g kv) w w3) := Lib.hid (HKP.out.trans (KeepP.of (P := fun _ => False) hb3') (fun _ _ h => h) (fun _ _ h => h.elim))
            clear hb3 hb3' c0 c1 c2 c3 c4 f1 f2 f3 f4 hmi
            go_wp2_with fail
            refine (HOS.out i d l (K ++ K') kv' w3 ro HS3.out hlK hil hd12 hl HONE.out).mono ?_
            rintro e4 w4 ⟨rfl, K4, kv4, hs4, hm4, ho4, hk4⟩
            have hK4 : KeepP (Mine g kv) w w4 := HK3.out.trans hk4 (fun _ _ h => h) (fun q hq h => Mine.onward HON.out q hq h)
            have hO4 : Onward kv kv4 w := HON.out.trans ho4 HK3.out.size
            have HREL : Hid (DRound L W0 g lv d l K kv w f r w4 ∧ leftD L g w4 < leftD L g wr) := Lib.hid (by
              cases ro with
              | bad er p =>
                have hro : r = .bad er p := HRO.out
                refine ⟨⟨.bad er p, K' ++ K4, kv4, [], by rw [← List.append_assoc]; exact hs4, hro, fun _ _ e => (by cases e), hO4, hK4⟩, ?_⟩
                rw [left_bad (show Sr L W0 g lv (.bad er p) (K ++ K' ++ K4) kv4 w4 from hs4), HLE.out]
                omega
              | ok o j =>
                obtain ⟨rr', hrow', hfin'⟩ := HRO.out
                have ha := HAH.out o j rfl
                have hcn := HCO.out o j rfl
                have ha1 := ha.1
                have ha2 := ha.2
                have hm5 := hm4 o j rfl
                have hm0 := HMI.out
                refine ⟨⟨.ok () j, K' ++ K4, kv4, K'.map (·.s) ++ (o.s :: (o.b.flat ++ o.e.flat)), by rw [← List.append_assoc]; exact hs4, ⟨f2', rr', by omega, hd12, ?_, ha2, hrow', hfin'⟩, fun _ _ _ => by rw [List.map_append, hm5], hO4, hK4⟩, ?_⟩
                · simp only [List.length_append, List.length_cons, flat_count]
                  omega
                · rw [left_ok (show Sr L W0 g lv (.ok () j) (K ++ K' ++ K4) kv4 w4 from hs4), HLE.out]
                  omega)
            clear hs4 hm4 ho4 hk4 hK4 hO4
            go_wp2_with fail
            go_roundw
            case rel =>
              first | exact HREL.out.1 | (repeat apply Exists.intro; exact ⟨HREL.out.1, rfl⟩)
            case measure => exact HREL.out.2
theorem dblock_all (hs : Src L W0 lv) : ∀ f, DBlockSays L W0 g lv (rowF L f) := fun f => Nat.strongRecOn f fun f ih => dblock_step hs f ih
end
end Go.Proofs.YtpeohfgadnfnpaaGreatDoor
/-
  DERIVED. Layer 4: the contract of the document's Parse (leadlineref04): the statements of the block that begins at any token.
-/
namespace Go.Proofs.YtpeohfgadnfnpaaGreatDoor
open Go.RowKit

section
variable {L : List Tok} {W0 : World} {g : Nat} {lv : Value} {t : RS Unit} {K : List Sv} {kv : Value} {w : World}
set_option maxRecDepth 100000 in
set_option maxHeartbeats 8000000 in
theorem rparse4_any (v : Value) (L : List Tok) (i : Int) (w : World) (h : ReadT w v L) (ht : Tabs w) (hl : L.length ≤ 10000) (hsm : SmallT L) : Calls Tryz.prog 11 #[v, .int .i64 i] w (GivesSt (stmtV L i) w) := by
  have HSRC : Hid (Src L w v) := Lib.hid ⟨h, ht, hl, hsm⟩
  have HRT := Lib.hid h
  by_cases hi : i < 0
  · have HV : Hid (stmtV L i = ⟨[], 0, 1, 0⟩) := Lib.hid (by unfold stmtV; rw [if_pos hi])
    clear h ht hsm
    go_enter Tryz.func11, Tryz.ntmps11
    go_wp2_with fail
    refine bodyPost_ret (v := .tuple #[.slice none 0 0, .int .i64 0, .int .i64 1, .int .i64 0]) (by simp [results, Tryz.results11, go_sem]) rfl ?_
    rw [HV.out]
    exact ⟨_, rfl, ownS_nil _ _, Below.refl _ _⟩
  obtain ⟨n, rfl⟩ : ∃ n : Nat, i = n := ⟨i.toNat, by omega⟩
  have hw : Sr L w w.heap.size v (.ok () n) [] (.slice none 0 0) (w.alloc (.cells #[v, .int .i64 n, .int .i64 0, .int .i64 0, .slice none 0 0] 49)) :=
    ⟨(Below.refl _ _).alloc (Nat.le_refl _) _, Nat.le_refl _, ⟨n, 0, 0, heap_alloc_new w _, rfl, rfl⟩, ⟨rfl, .inl ⟨rfl, rfl⟩⟩, fun x h => by (cases h)⟩
  have HST := Lib.hid hw
  have HBS : Hid (Calls Tryz.prog 26 #[.pointer (some ⟨w.heap.size, 0, none⟩), .int .i64 0, .int .i64 0] (w.alloc (.cells #[v, .int .i64 n, .int .i64 0, .int .i64 0, .slice none 0 0] 49)) (DBlockPost L w w.heap.size v [] (.slice none 0 0) (w.alloc (.cells #[v, .int .i64 n, .int .i64 0, .int .i64 0, .slice none 0 0] 49)) (blockR L n 0 0))) :=
    Lib.hid (dblock_all (g := w.heap.size) HSRC.out (L.length + 1) (.ok () n) 0 0 [] (.slice none 0 0) _ _ hw (fun _ _ _ => ⟨Nat.zero_le _, .inr rfl⟩) (by omega) (by omega) (blockR_some L n 0 0))
  have HLO : Hid (∀ k, k < w.heap.size → ¬ Mine w.heap.size (.slice none 0 0) k) := Lib.hid hw.mine_low
  clear h ht hsm hw
  obtain ⟨A, c, rfl, hc, _⟩ := HRT.out
  generalize hW : w.alloc (.cells #[.slice A L.length c, .int .i64 n, .int .i64 0, .int .i64 0, .slice none 0 0] 49) = W at *
  cases hb : blockR L n 0 0 with
  | bad er p =>
    have HV := Lib.hid (blockR_bad hb)
    rw [hb] at HBS
    clear hb
    go_enter Tryz.func11, Tryz.ntmps11
    go_wp2_with fail
    refine HBS.out.mono ?_
    rintro e w1 ⟨m, K1, kv1, rfl, hs1, _, _, hk⟩
    have HB1 : Hid (Below w.heap.size w w1) := Lib.hid (HST.out.low.trans (hk.below HLO.out HST.out.low.size))
    obtain ⟨j, _, ⟨hgl, c0, c1, c2, c3, c4, f1, f2, f3, f4⟩, hne0⟩ := Sr.badc (show Sr L w w.heap.size (.slice A L.length c) (.bad er p) ([] ++ K1) kv1 w1 from hs1)
    have hz2 : (er != 0) = true := by simp [hne0]
    clear hs1 hk hne0 hW
    go_wp2_with fail
    go_quiet (fail)
    go_wp2_with fail
    refine bodyPost_ret (v := .tuple #[.slice none 0 0, .int .i64 0, .int .i64 er, .int .i64 p]) (by simp [results, Tryz.results11, go_sem]) rfl ?_
    rw [HV.out]
    exact ⟨_, rfl, ownS_nil _ _, HB1.out.trans (Below.mono (below_drew1 _ _) HB1.out.size)⟩
  | ok t j =>
    rw [hb] at HBS
    have hah := block_ahead (row_ahead L (L.length + 1)) (blockR_some L n 0 0)
    rw [hb] at hah
    have hnl : n < L.length := by have h1 := hah.1; have h2 := hah.2; omega
    by_cases hc40 : 40 < t.count
    · have HV := Lib.hid (blockR_big hb hc40)
      obtain ⟨x, hx⟩ : ∃ x, L[n]? = some x := ⟨L[n], List.getElem?_eq_getElem hnl⟩
      have HPL := Lib.hid (placeV_at hx)
      have HXX := Lib.hid hx
      have hnI0 : (0 : Int) ≤ (n : Int) := by omega
      have hnI1 : (n : Int) < (L.length : Int) := by omega
      clear hb hah hx
      go_enter Tryz.func11, Tryz.ntmps11
      go_wp2_with fail
      refine HBS.out.mono ?_
      rintro e w1 ⟨m, K1, kv1, rfl, hs1, hv1, _, hk⟩
      have hm1 := (hv1 t j rfl).2
      have HB1 : Hid (Below w.heap.size w w1) := Lib.hid (HST.out.low.trans (hk.below HLO.out HST.out.low.size))
      obtain ⟨A9, cc9, hkv9⟩ := row_slice9 hs1.row
      obtain ⟨pos4, hb4, _⟩ := Sr.okc (show Sr L w w.heap.size (.slice A L.length c) (.ok () j) ([] ++ K1) kv1 w1 from hs1)
      rw [hkv9] at hb4
      obtain ⟨hgl, c0, c1, c2, c3, c4, f1, f2, f3, f4⟩ := p5d_of hb4
      obtain ⟨NN, hNN⟩ : ∃ NN, ([] ++ K1).length = NN := ⟨_, rfl⟩
      have hN40 : (40 : Int) < (NN : Int) := by
        have h1 := congrArg List.length hm1
        rw [List.length_map, flat_count] at h1
        rw [← hNN, List.nil_append]
        omega
      rw [hNN] at c4
      obtain ⟨b', c', hv', hc', hb0', _, _, _, t3⟩ := Sr.tok hs1 HSRC.out HXX.out
      simp only [Value.slice.injEq] at hv'
      obtain ⟨rfl, _, rfl⟩ := hv'
      clear hs1 hv1 hm1 hk hb4 hNN hkv9 hW
      go_wp2_with fail
      go_quiet (fail)
      go_wp2_with fail
      refine bodyPost_ret (v := .tuple #[.slice none 0 0, .int .i64 0, .int .i64 2, .int .i64 x.pl]) (by simp [results, Tryz.results11, go_sem]) rfl ?_
      rw [HV.out]
      exact ⟨_, by rw [HPL.out], ownS_nil _ _, below_then HB1.out (below_drew1 _ _)⟩
    · have HV := Lib.hid (blockR_ok hb hc40)
      clear hb hah
      go_enter Tryz.func11, Tryz.ntmps11
      go_wp2_with fail
      refine HBS.out.mono ?_
      rintro e w1 ⟨m, K1, kv1, rfl, hs1, hv1, _, hk⟩
      have hm1 := (hv1 t j rfl).2
      have HB1 : Hid (Below w.heap.size w w1) := Lib.hid (HST.out.low.trans (hk.below HLO.out HST.out.low.size))
      have HS1 := Lib.hid hs1
      have HM1 := Lib.hid hm1
      obtain ⟨A9, cc9, hkv9⟩ := row_slice9 hs1.row
      obtain ⟨pos4, hb4, _⟩ := Sr.okc (show Sr L w w.heap.size (.slice A L.length c) (.ok () j) ([] ++ K1) kv1 w1 from hs1)
      have HKV := Lib.hid hkv9
      rw [hkv9] at hb4
      obtain ⟨hgl, c0, c1, c2, c3, c4, f1, f2, f3, f4⟩ := p5d_of hb4
      obtain ⟨NN, hNN⟩ : ∃ NN, ([] ++ K1).length = NN := ⟨_, rfl⟩
      have hN40 : ¬ (40 : Int) < (NN : Int) := by
        have h1 := congrArg List.length hm1
        rw [List.length_map, flat_count] at h1
        rw [← hNN, List.nil_append]
        omega
      have HNN := Lib.hid hNN
      rw [hNN] at c4
      clear hs1 hv1 hm1 hk hb4 hNN hkv9 hW
      go_wp2_with fail
      go_quiet (fail)
      go_wp2_with fail
      refine bodyPost_ret (v := .tuple #[.slice A9 NN cc9, .int .i64 j, .int .i64 0, .int .i64 0]) (by simp [results, Tryz.results11, go_sem]) rfl ?_
      rw [HV.out]
      have hb5 := below_drew1 w1 nq
      have hs5 := HS1.out.on hb5
      rw [← HNN.out, ← HKV.out]
      exact ⟨_, rfl, ⟨K1, HM1.out, by simpa using hs5.row, fun x hx => hs5.rds x (by simpa using hx)⟩, below_then HB1.out hb5⟩
end
end Go.Proofs.YtpeohfgadnfnpaaGreatDoor
