/-
  DERIVED. Layer 4: the walk of the law StmtBodies: for all statements and every number it is true.
-/
import Derived.Test.YtpeohfgadnfnpaaGreatDoorP50
namespace Go.Proofs.YtpeohfgadnfnpaaGreatDoor
open Go.RowKit

/-- Part of a row, as a source of what is appended. -/
theorem OwnK.newsAt {w : World} {B g n cap : Nat} {K : List Sv} (h : OwnK w B (.slice (some ⟨g, 0, none⟩) n cap) K) (k m : Nat) : ∀ j u, (cellsV ((K.drop k).take m))[j]? = some u → w.cell? ((⟨g, k * 9, none⟩ : Addr).add j) = some u := by
  intro j u hu
  have hadd : (⟨g, k * 9, none⟩ : Addr).add j = ⟨g, k * 9 + j, none⟩ := by unfold Addr.add; split <;> simp_all
  have hadd0 : (⟨g, 0, none⟩ : Addr).add (k * 9 + j) = ⟨g, k * 9 + j, none⟩ := by unfold Addr.add; split <;> simp_all
  rw [hadd, ← hadd0]
  refine h.news (k * 9 + j) u ?_
  have hjl : j < (cellsV ((K.drop k).take m)).length := (List.getElem?_eq_some_iff.1 hu).1
  rw [cellsV_len, List.length_take, List.length_drop] at hjl
  have hk : k ≤ K.length := by omega
  have e : K = K.take k ++ ((K.drop k).take m ++ (K.drop k).drop m) := by rw [List.take_append_drop, List.take_append_drop]
  have hl : (cellsV (K.take k)).length = k * 9 := by rw [cellsV_len, List.length_take, Nat.min_eq_left hk]
  rw [e, cellsV_app, cellsV_app, List.getElem?_append_right (by omega), hl, Nat.add_sub_cancel_left, List.getElem?_append_left (by rw [cellsV_len, List.length_take, List.length_drop]; omega)]
  exact hu
theorem add_zero4 (g j : Nat) : (⟨g, 0, none⟩ : Addr).add j = ⟨g, j, none⟩ := by unfold Addr.add; split <;> simp_all
theorem OwnK.newsTake {w : World} {B g n cap : Nat} {K : List Sv} (h : OwnK w B (.slice (some ⟨g, 0, none⟩) n cap) K) (m : Nat) : ∀ j u, (cellsV (K.take m))[j]? = some u → w.cell? ((⟨g, 0, none⟩ : Addr).add j) = some u := by
  have := h.newsAt 0 m
  simpa using this
theorem OwnK.newsDrop {w : World} {B g n cap : Nat} {K : List Sv} (h : OwnK w B (.slice (some ⟨g, 0, none⟩) n cap) K) (k : Nat) {ad : Addr} (hk : K.length ≤ cap) (ha : (if cap = k then some (⟨g, 0, none⟩ : Addr) else some ⟨g, k * 9, none⟩) = some ad) : ∀ j u, (cellsV (K.drop k))[j]? = some u → w.cell? (ad.add j) = some u := by
  intro j u hu
  split at ha
  · rw [List.drop_eq_nil_of_le (by omega)] at hu
    simp [cellsV] at hu
  · obtain rfl := Option.some.inj ha
    refine h.newsAt k K.length j u ?_
    rw [List.take_of_length_le (by rw [List.length_drop]; omega)]; exact hu
/-- Where the law stands: at a statement of the row's own. -/
def At4 (b : Bk) (k : Nat) : Prop := ∃ p s x e r, StandsAt b k p s x e r
/-- Is there a break among the first ones? -/
def anyBrk (L : List Stm) (j : Nat) : Bool := (L.take j).any (fun x => x.kind == 13)
theorem anyBrk_succ {L : List Stm} {j : Nat} {t : Stm} (h : L[j]? = some t) : anyBrk L (j + 1) = (anyBrk L j || t.kind == 13) := by
  unfold anyBrk
  rw [List.take_add_one, h]
  simp
theorem anyBrk_all {L : List Stm} (h : anyBrk L L.length = false) : ∀ y ∈ L, ¬ y.kind = 13 := by
  unfold anyBrk at h
  rw [List.take_length] at h
  intro y hy hk
  have := List.any_eq_false.1 h y hy
  simp [hk] at this
set_option maxRecDepth 100000 in
set_option maxHeartbeats 16000000 in
theorem bodies_any (A : Option Addr) (n c : Nat) (R : Nat → RawS) (i : Int) (w : World) (hA : ArgS w A n R) (ht : Tabs w) :
    Calls Tryz.prog 7 #[.slice A n c, .int .i64 i] w (IsTrue w) := by
  obtain ⟨i0, hi, hz0, hz1, hz2⟩ := info_parts infoStm
  have HZ := Lib.hid (show Tryz.prog.info? 31 = some i0 ∧ i0.zero = some (.agg #[.int .i64 0, .string ⟨#[]⟩, .string ⟨#[]⟩, .slice none 0 0, .slice none 0 0, .int .i64 0, .int .i64 0, .int .i64 0, .int .i64 0]) ∧ i0.size = 9 ∧ i0.bytes = 120 from ⟨hi, hz0, hz1, hz2⟩)
  have HA := Lib.hid hA
  have HT := Lib.hid ht
  have hll := rawS_len R (min n 50)
  have HSM := Lib.hid (rawS_small R (min n 50))
  have hq7 : 0 ≤ bits .and .i64 i 65535 ∧ bits .and .i64 i 65535 ≤ 65535 := and_low i 65535 (by decide)
  clear hi hz0 hz1 hz2 hA ht
  go_enter Tryz.func7, Tryz.ntmps7
  go_wp2_with fail
  refine (cutK_any A n c R _ HA.out).mono ?_
  generalize rawS R (min n 50) = L at *
  have hl50 : L.length ≤ 50 := by omega
  clear hll
  rintro e w1 ⟨g1, cap1, K1, rfl, hm1, ho1, hb⟩
  have HB := Lib.hid hb
  have HO := Lib.hid ho1
  have HM := Lib.hid hm1
  clear ho1 hb hm1
  have hRL : ∀ u, OwnK u w.heap.size (.slice (some ⟨g1, 0, none⟩) L.length cap1) K1 → ReadSt u (.slice (some ⟨g1, 0, none⟩) L.length cap1) L := fun u h => by rw [← HM.out]; rw [← HM.out] at h; exact h.read
  have HRL := Lib.hid hRL
  clear hRL
  go_wp2_with fail
  refine (sright_any _ L _ (HRL.out _ HO.out) HSM.out (HT.out.on HB.out)).mono ?_
  cases hr : rightS L with
  | false =>
    rintro e w3 ⟨rfl, hb⟩
    replace HB := Lib.hid (below_then HB.out hb)
    clear hb
    go_wp2_with fail
    refine (fixed_any _ (HT.out.on HB.out)).mono ?_
    rintro e w4 ⟨rfl, hb⟩
    go_wp2_with fail
    go_ret
    exact ⟨rfl, below_then HB.out hb⟩
  | true =>
    rintro e w2 ⟨rfl, hb⟩
    replace HO := Lib.hid (HO.out.on hb)
    replace HB := Lib.hid (below_then HB.out hb)
    clear hb
    by_cases hL0 : L.length = 0
    · have hLi : ((L.length : Int) == 0) = true := by rw [hL0]; rfl
      have HL0 := Lib.hid hL0
      clear hL0
      go_wp2_with fail
      refine (fixed_any _ (HT.out.on HB.out)).mono ?_
      rintro e w4 ⟨rfl, hb⟩
      go_wp2_with fail
      go_ret
      exact ⟨rfl, below_then HB.out hb⟩
    have hLi : ((L.length : Int) == 0) = false := by simpa using hL0
    obtain ⟨b, hbf, hgood, hb40, hbrk, hdeep, _⟩ := rightS_some hr
    have hcnt : b.count = L.length := by rw [← flat_count, hbf]
    have HRT := Lib.hid hr
    have HBF := Lib.hid hbf
    have HFIT := Lib.hid hgood.1
    obtain ⟨dL, hdL⟩ : ∃ d, depthS L = d := ⟨_, rfl⟩
    have JL := Lib.hid hdL
    obtain ⟨a, ha⟩ : ∃ a, bits .and .i64 i 65535 = a := ⟨_, rfl⟩
    rw [ha] at hq7
    clear hr hbf hgood hbrk hdeep hdL
    go_wp2_with fail
    refine (sdepth_any _ L _ (HRL.out _ HO.out) HSM.out (HT.out.on HB.out)).mono ?_
    rw [JL.out]
    rintro e w3 ⟨rfl, hb⟩
    replace HO := Lib.hid (HO.out.on hb)
    replace HB := Lib.hid (below_then HB.out hb)
    clear hb
    have hnz : ¬ (L.length : Int) = 0 := by omega
    have hat0 : At4 b 0 := by
      obtain ⟨s, x, e, r, h⟩ := stands_first (b := b) (by omega)
      exact ⟨_, _, _, _, _, h⟩
    have HAT0 := Lib.hid hat0
    have hmod : 0 ≤ a % (L.length : Int) ∧ a % (L.length : Int) ≤ 65535 := by
      have h1 := Int.emod_nonneg a (show (L.length : Int) ≠ 0 by omega)
      have h3 := Int.emod_lt_of_pos a (show (0 : Int) < (L.length : Int) by omega)
      omega
    clear hat0
    go_wp2_with fail
    generalize hmm : a % (L.length : Int) = am at *
    clear hmm
    obtain ⟨m0, rfl⟩ : ∃ m : Nat, am = m := ⟨am.toNat, by omega⟩
    go_loopw [5, 7] (fun kv nv wr => ∃ k m : Nat, kv = .int .i64 k ∧ nv = .int .i64 m ∧ m ≤ 65535 ∧ At4 b k ∧ Below w3.heap.size w3 wr) (fun _ nv _ => (intOf nv).toNat)
    case atStart => exact ⟨0, m0, rfl, rfl, by omega, HAT0.out, Below.refl _ _⟩
    case round =>
      obtain ⟨k, m, rfl, rfl, hm65, hat, hbr⟩ := hrel
      replace HO := Lib.hid (HO.out.on hbr)
      replace HB := Lib.hid (below_then HB.out hbr)
      rcases Nat.eq_zero_or_pos m with rfl | hm
      · clear hbr
        obtain ⟨p, s, x, e, r, hst⟩ := hat
        obtain ⟨p1, p2, p3, p4, p5, p6, p7⟩ := stands_parts hst HFIT.out
        rw [HBF.out] at p1 p5 p6 p7
        rw [hcnt] at p4
        obtain ⟨q1, q2⟩ := bodies_pure hst (by rw [HBF.out]; exact HRT.out) HFIT.out
        rw [HBF.out, JL.out] at q2
        have Q1 := Lib.hid q1
        have Q2 := Lib.hid q2
        have P5 := Lib.hid p5
        have P6 := Lib.hid p6
        have P7 := Lib.hid p7
        obtain ⟨_, _, _, _, _, _, h9⟩ := (HRL.out _ HO.out).at9 p1
        have c6 := h9.c6
        have c7 := h9.c7
        have hl9 := h9.lt
        rw [p2] at c6
        rw [p3] at c7
        have hcl : L.length ≤ cap1 ∧ cap1 ≤ 9223372036854775807 := by
          obtain ⟨A0, c0, hv, h1, h2, _⟩ := HRL.out _ HO.out
          simp only [Value.slice.injEq] at hv
          unfold maxLen at h2
          omega
        have hxl : x.flat.length = x.count := flat_count x
        generalize x.count = xc at *
        generalize e.count = ec at *
        have hw1 : IntKind.i64.wrap ((k : Int) + 1) = (k : Int) + 1 := IntWalk.i64_in _ (by omega)
        have hw2 : IntKind.i64.wrap ((k : Int) + 1 + (xc : Int)) = (k : Int) + 1 + xc := IntWalk.i64_in _ (by omega)
        have hw3 : IntKind.i64.wrap ((k : Int) + 1 + (xc : Int) + (ec : Int)) = (k : Int) + 1 + xc + ec := IntWalk.i64_in _ (by omega)
        have hk0 : (0 : Int) ≤ (k : Int) := by omega
        have hk1 : (k : Int) < (L.length : Int) := by omega
        have hend : k + 1 + xc + ec ≤ L.length := by omega
        have P4 := Lib.hid p4
        have HXL := Lib.hid hxl
        clear hst q1 q2 p1 p2 p3 p4 p5 p6 p7 h9 hxl
        obtain ⟨AX, hax⟩ : ∃ AX, (if cap1 = k + 1 then some (⟨g1, 0, none⟩ : Addr) else some ⟨g1, (k + 1) * 9, none⟩) = AX := ⟨_, rfl⟩
        have htn1 : ((k : Int) + 1).toNat = k + 1 := by omega
        have htn2 : ((k : Int) + 1 + (xc : Int)).toNat = k + 1 + xc := by omega
        go_wp2_with fail
        go_quiet (fail)
        go_upto_region 16 with (fail)
        have hbq := below_drew1 wr nq
        replace HO := Lib.hid (HO.out.on hbq)
        replace HB := Lib.hid (below_then HB.out hbq)
        generalize wr.drewN nq = W at *
        have HBODY : Hid (ReadSt W (.slice AX xc (cap1 - (k + 1))) x.flat) := Lib.hid ((HRL.out W HO.out).cutAt (k := k + 1) (j := k + 1 + xc) (by omega) (by omega) (by omega) rfl (fun hk => by rw [← hax, if_neg (by omega), Nat.zero_add]) P6.out.symm)
        have HAX : Hid (k + 1 < cap1 → AX = some ⟨g1, (k + 1) * 9, none⟩) := Lib.hid (fun hk => by rw [← hax, if_neg (by omega)])
        clear hbq hax c6 c7 hl9
        go_wp2_with fail
        go_loop [11, 12] (fun bv jv => ∃ j : Nat, j ≤ xc ∧ jv = .int .i64 j ∧ bv = .bool (anyBrk x.flat j)) (fun _ jv => xc - (intOf jv).toNat)
        case atStart => exact ⟨0, Nat.zero_le _, rfl, by simp [anyBrk]⟩
        case round =>
          obtain ⟨j, hj, rfl, rfl⟩ := hrel
          rcases Nat.lt_or_ge j xc with hlt | hge
          case inl =>
            obtain ⟨t, htj⟩ : ∃ t, x.flat[j]? = some t := ⟨x.flat[j]'(by rw [HXL.out]; omega), List.getElem?_eq_getElem _⟩
            have HS := Lib.hid (anyBrk_succ htj)
            obtain rfl := HAX.out (by omega)
            obtain ⟨A9, c9, hv9, _, _, hr9⟩ := HBODY.out
            obtain ⟨g9, o9, _, _, _, _, _, _, hA9, h9⟩ := hr9 j t htj
            simp only [Value.slice.injEq] at hv9
            obtain ⟨rfl, _, _⟩ := hv9
            simp only [Option.some.injEq, Addr.mk.injEq] at hA9
            obtain ⟨rfl, rfl, _⟩ := hA9
            have x0 := h9.c0
            have xl := h9.lt
            have hj0 : (0 : Int) ≤ (j : Int) := by omega
            have hj1 : (j : Int) < (xc : Int) := by omega
            have hwj : IntKind.i64.wrap ((j : Int) + 1) = (j : Int) + 1 := IntWalk.i64_in _ (by omega)
            clear h9 hr9 htj
            cases hbk : anyBrk x.flat j with
            | true =>
              have HE : Hid (anyBrk x.flat (j + 1) = true) := Lib.hid (by rw [HS.out, hbk]; rfl)
              go_wp2_with fail
              go_round
              case rel => exact ⟨j + 1, by omega, by go_num, by rw [HE.out]⟩
              case measure => simp [intOf]; omega
            | false =>
              have HE : Hid (anyBrk x.flat (j + 1) = (t.kind == 13)) := Lib.hid (by rw [HS.out, hbk]; rfl)
              go_wp2_with fail
              go_round
              case rel => exact ⟨j + 1, by omega, by go_num, by rw [HE.out]⟩
              case measure => simp [intOf]; omega
          case inr =>
            obtain rfl : j = xc := by omega
            obtain ⟨bk, hbk⟩ : ∃ bk, anyBrk x.flat j = bk := ⟨_, rfl⟩
            have HBK := Lib.hid hbk
            rw [hbk]
            clear hbk
            have hK1 : K1.length = L.length := by rw [← HM.out, List.length_map]
            have HK1 := Lib.hid hK1
            have hsz := HB.out.size
            have HLT : Hid (g1 < W.heap.size) := Lib.hid (row_lt HO.out.row g1 rfl)
            obtain ⟨E, hE⟩ : ∃ E, k + 1 + j + ec = E := ⟨_, rfl⟩
            have HE := Lib.hid hE
            have hEI : (k : Int) + 1 + (j : Int) + (ec : Int) = (E : Int) := by omega
            have hEl : E ≤ L.length := by omega
            rw [hEI]
            have HTK : Hid ((K1.take k).length = k) := Lib.hid (by rw [List.length_take, hK1]; omega)
            have HDR : Hid ((K1.drop E).length = L.length - E) := Lib.hid (by rw [List.length_drop, hK1])
            have hkl : k ≤ L.length := by omega
            have hE0 : (0 : Int) ≤ (E : Int) := by omega
            have hE1 : (E : Int) ≤ (L.length : Int) := by omega
            have hE2 : L.length ≤ cap1 := hcl.1
            have hE3 : E ≤ cap1 := by omega
            clear hK1 hE hEI hw1 hw2 hw3 htn1 htn2
            go_wp2_with (at_builtin; refine wpList_append_own _ rfl (.tmp 106) (.tmp 109) 24 rfl W.heap.size 31 i0 (.agg #[.int .i64 0, .string ⟨#[]⟩, .string ⟨#[]⟩, .slice none 0 0, .slice none 0 0, .int .i64 0, .int .i64 0, .int .i64 0, .int .i64 0]) 9 120 Tryz.underlying24 HZ.out.1 HZ.out.2.1 HZ.out.2.2.1 HZ.out.2.2.2 rfl (by decide) _ 0 (cellsV []) rfl ?dO ⟨g1, 0, none⟩ k cap1 (cellsV (K1.take k)) rfl ?dl ?d1 ?d2 ?d3 ?d4 ?d5 ?_)
            case dO => exact (ownK_new W).row
            case dl => rw [cellsV_len, HTK.out]
            case d1 =>
              intro q u hu
              have h1 := (HO.out.on ((Below.refl _ _).alloc (Nat.le_refl _) (.cells #[] 31))).newsTake k q u hu
              rw [add_zero4] at h1
              exact h1
            case d2 => exact cellsV_one (fun z hz => HO.out.rds z (List.mem_of_mem_take hz))
            case d3 => unfold maxLen; omega
            case d4 => omega
            intro v5 w5 hown5 hgrow5 _
            have hbn := (Below.refl W.heap.size W).alloc (Nat.le_refl _) (.cells #[] 31)
            have hO5 : OwnK w5 w.heap.size v5 (K1.take k) := by
              have := ((ownK_new W).low hsz).app (M := K1.take k) (fun z hz => (HO.out.on hbn).rds z (List.mem_of_mem_take hz)) (by rw [HTK.out, show ([] : List Sv).length + k = k from by simp]; exact row_low (by simpa using hown5) hsz) hgrow5
              simpa using this
            have hk5 := (KeepP.of (P := fun q => q = W.heap.size) hbn).trans (KeepP.grown hgrow5) (R := fun q => q = W.heap.size) (fun _ _ h => h) (fun q _ h => by simpa [Value.ownBlock] using h.symm)
            have hB5 : Below W.heap.size W w5 := hk5.below (fun q hq e => by omega) (Nat.le_refl _)
            replace HO := Lib.hid (HO.out.on hB5)
            have HO5 := Lib.hid hO5
            replace HBODY := Lib.hid (HBODY.out.on hB5)
            replace HB := Lib.hid (below_then HB.out hB5)
            have hsz5 := HB.out.size
            have HNE : Hid (∀ q, v5.ownBlock = some q → W.heap.size ≤ q) := Lib.hid (fun q hq => (row_type hown5 q hq).1)
            clear hown5 hgrow5 hbn hO5 hk5 hB5 hsz
            obtain ⟨AY, hay⟩ : ∃ AY : Option Addr, (if cap1 = E then (some ⟨g1, 0, none⟩ : Option Addr) else some ⟨g1, E * 9, none⟩) = AY := ⟨_, rfl⟩
            obtain ⟨ad, had⟩ : ∃ ad, AY = some ad := by rw [← hay]; split <;> exact ⟨_, rfl⟩
            have HAD : Hid ((if cap1 = E then (some ⟨g1, 0, none⟩ : Option Addr) else some ⟨g1, E * 9, none⟩) = some ad) := Lib.hid (by rw [hay, had])
            have HAY := Lib.hid had
            clear had
            go_wp2_with (at_builtin; rw [HAY.out]; refine wpList_append_own _ rfl (.tmp 111) (.tmp 114) 24 rfl w.heap.size 31 i0 (.agg #[.int .i64 0, .string ⟨#[]⟩, .string ⟨#[]⟩, .slice none 0 0, .slice none 0 0, .int .i64 0, .int .i64 0, .int .i64 0, .int .i64 0]) 9 120 Tryz.underlying24 HZ.out.1 HZ.out.2.1 HZ.out.2.2.1 HZ.out.2.2.2 rfl (by decide) v5 (K1.take k).length (cellsV (K1.take k)) rfl ?eO ad (L.length - E) (cap1 - E) (cellsV (K1.drop E)) rfl ?el ?e1 ?e2 ?e3 ?e4 ?e5 ?_)
            case eO => exact HO5.out.row
            case el => rw [cellsV_len, HDR.out]
            case e1 => exact HO.out.newsDrop E (by rw [HK1.out]; omega) HAD.out
            case e2 => exact cellsV_one (fun z hz => HO.out.rds z (List.mem_of_mem_drop hz))
            case e3 => rw [HTK.out]; unfold maxLen; omega
            case e4 => rw [HTK.out]; omega
            case e5 => exact hsz5
            intro v6 w6 hown6 hgrow6 _
            have hO6 : OwnK w6 w.heap.size v6 (K1.take k ++ K1.drop E) := HO5.out.app (fun z hz => HO.out.rds z (List.mem_of_mem_drop hz)) (by rw [HDR.out, List.length_take]; exact hown6) hgrow6
            have hk6 := KeepP.grown hgrow6
            have hn6 := row_nodes HO5.out.row
            replace HO := Lib.hid (HO.out.keep hk6 (fun q hq e => by have := HNE.out q e; have := HLT.out; simp [Value.ownBlock] at hq; omega) hn6)
            replace HB := Lib.hid (HB.out.trans (HO5.out.below hgrow6 (Nat.le_refl _) hsz5))
            replace HBODY : Hid (ReadSt w6 (.slice AX j (cap1 - (k + 1))) x.flat) := Lib.hid (by
              have hEq := HE.out
              exact (HRL.out w6 HO.out).cutAt (k := k + 1) (j := k + 1 + j) (by omega) (by omega) (by omega) rfl (fun hk => by rw [HAX.out hk, Nat.zero_add]) P6.out.symm)
            obtain ⟨A6, c6, rfl⟩ := row_slice hO6.row
            have hlen6 : (K1.take k ++ K1.drop E).length = k + (L.length - E) := by rw [List.length_append, HTK.out, HDR.out]
            have HR6 : Hid (ReadSt w6 (.slice A6 (k + (L.length - E)) c6) (p.flat ++ r.flat)) := Lib.hid (by
              have := hO6.read
              rw [List.map_append, List.map_take, List.map_drop, HM.out, P5.out, ← HE.out, P7.out, HE.out, hlen6] at this
              exact this)
            rw [hlen6]
            have HSR : Hid (∀ z ∈ p.flat ++ r.flat, SmallS z) := Lib.hid (fun z hz => HSM.out z (by
              rcases List.mem_append.1 hz with h | h
              · rw [← P5.out] at h; exact List.mem_of_mem_take h
              · rw [← P7.out] at h; exact List.mem_of_mem_drop h))
            have HSX : Hid (∀ z ∈ x.flat, SmallS z) := Lib.hid (fun z hz => HSM.out z (by rw [← P6.out] at hz; exact List.mem_of_mem_take (List.mem_of_mem_drop hz)))
            clear hown6 hgrow6 hO6 hk6 hn6 hlen6 hsz5 HO5 HNE HLT hay
            cases bk with
            | true =>
              go_wp2_with fail
              refine (sright_any _ _ _ HR6.out HSR.out (HT.out.on HB.out)).mono ?_
              rw [Q1.out]
              rintro e w7 ⟨rfl, hb⟩
              replace HB := Lib.hid (below_then HB.out hb)
              clear hb
              go_wp2_with fail
              refine (fixed_any _ (HT.out.on HB.out)).mono ?_
              rintro e w8 ⟨rfl, hb⟩
              go_wp2_with fail
              go_ret
              exact ⟨rfl, below_then HB.out hb⟩
            | false =>
              obtain ⟨x1, x2⟩ := Q2.out (anyBrk_all (by rw [HXL.out]; exact HBK.out))
              have X1 := Lib.hid x1
              have X2 := Lib.hid x2
              clear x1 x2
              go_wp2_with fail
              refine (sright_any _ _ _ HBODY.out HSX.out (HT.out.on HB.out)).mono ?_
              rw [X1.out]
              rintro e w7 ⟨rfl, hb⟩
              replace HBODY := Lib.hid (HBODY.out.on hb)
              replace HR6 := Lib.hid (HR6.out.on hb)
              replace HB := Lib.hid (below_then HB.out hb)
              clear hb
              by_cases hj0 : j = 0
              · have hji : ((j : Int) == 0) = true := by rw [hj0]; rfl
                have HJ0 := Lib.hid hj0
                clear hj0
                go_wp2_with fail
                refine (sright_any _ _ _ HR6.out HSR.out (HT.out.on HB.out)).mono ?_
                rw [Q1.out]
                rintro e w8 ⟨rfl, hb⟩
                replace HB := Lib.hid (below_then HB.out hb)
                clear hb
                go_wp2_with fail
                refine (fixed_any _ (HT.out.on HB.out)).mono ?_
                rintro e w9 ⟨rfl, hb⟩
                go_wp2_with fail
                go_ret
                exact ⟨rfl, below_then HB.out hb⟩
              · have hji : ((j : Int) == 0) = false := by simpa using hj0
                have hdx := X2.out (by omega)
                obtain ⟨dx, hdx2⟩ : ∃ d, depthS x.flat = d := ⟨_, rfl⟩
                rw [hdx2] at hdx
                have HDX := Lib.hid hdx2
                clear hdx2 hj0
                go_wp2_with fail
                refine (sdepth_any _ _ _ HBODY.out HSX.out (HT.out.on HB.out)).mono ?_
                rw [HDX.out]
                rintro e w8 ⟨rfl, hb⟩
                replace HR6 := Lib.hid (HR6.out.on hb)
                replace HB := Lib.hid (below_then HB.out hb)
                clear hb
                go_wp2_with fail
                refine (sright_any _ _ _ HR6.out HSR.out (HT.out.on HB.out)).mono ?_
                rw [Q1.out]
                rintro e w9 ⟨rfl, hb⟩
                replace HB := Lib.hid (below_then HB.out hb)
                clear hb
                go_wp2_with fail
                refine (fixed_any _ (HT.out.on HB.out)).mono ?_
                rintro e w10 ⟨rfl, hb⟩
                go_wp2_with fail
                go_ret
                exact ⟨rfl, below_then HB.out hb⟩
      · have hmi : (0 : Int) < (m : Int) := by omega
        have hwm : IntKind.i64.wrap ((m : Int) - 1) = (m : Int) - 1 := IntWalk.i64_in _ (by omega)
        have hat2 := hat
        obtain ⟨p0, s0, x0, e0, r0, hst0⟩ := hat2
        obtain ⟨a1, a2, a3, a4, _, _, _⟩ := stands_parts hst0 HFIT.out
        rw [HBF.out] at a1
        rw [hcnt] at a4
        have HNX : Hid (0 < r0.count → At4 b (k + 1 + x0.count + e0.count)) := Lib.hid (fun h => by
          obtain ⟨s', x', e', r', h'⟩ := stands_next hst0 h
          exact ⟨_, _, _, _, _, h'⟩)
        obtain ⟨_, _, _, _, _, _, h9⟩ := (HRL.out _ HO.out).at9 a1
        have c6 := h9.c6
        have c7 := h9.c7
        have hl9 := h9.lt
        rw [a2] at c6
        rw [a3] at c7
        generalize x0.count = xc at *
        generalize e0.count = ec at *
        have hw1 : IntKind.i64.wrap ((k : Int) + 1) = (k : Int) + 1 := IntWalk.i64_in _ (by omega)
        have hw2 : IntKind.i64.wrap ((k : Int) + 1 + (xc : Int)) = (k : Int) + 1 + xc := IntWalk.i64_in _ (by omega)
        have hw3 : IntKind.i64.wrap ((k : Int) + 1 + (xc : Int) + (ec : Int)) = (k : Int) + 1 + xc + ec := IntWalk.i64_in _ (by omega)
        have hk0 : (0 : Int) ≤ (k : Int) := by omega
        have hk1 : (k : Int) < (L.length : Int) := by omega
        have A4 := Lib.hid a4
        clear hst0 a1 a2 a3 h9
        by_cases hnx : k + 1 + xc + ec < L.length
        · have hnI : (k : Int) + 1 + (xc : Int) + (ec : Int) < (L.length : Int) := by omega
          have HAT : Hid (At4 b (k + 1 + xc + ec)) := Lib.hid (HNX.out (by omega))
          clear a4
          go_wp2_with fail
          go_quiet (fail)
          go_wp2_with fail
          go_roundw
          case rel => exact ⟨k + 1 + xc + ec, m - 1, by go_num, by go_num, by omega, HAT.out, below_then hbr (below_drew1 _ _)⟩
          case measure => simp [intOf]; omega
        · have hnI : ¬ (k : Int) + 1 + (xc : Int) + (ec : Int) < (L.length : Int) := by omega
          clear a4 HNX A4
          go_wp2_with fail
          go_quiet (fail)
          go_wp2_with fail
          have hbq := below_drew1 wr nq
          replace HO := Lib.hid (HO.out.on hbq)
          replace HB := Lib.hid (below_then HB.out hbq)
          generalize wr.drewN nq = wr2 at *
          clear hbq hbr c6 c7 hl9 hw1 hw2 hw3 hk0 hk1 hnI hnx
          obtain ⟨p, s, x, e, r, hst⟩ := hat
          obtain ⟨p1, p2, p3, p4, p5, p6, p7⟩ := stands_parts hst HFIT.out
          rw [HBF.out] at p1 p5 p6 p7
          rw [hcnt] at p4
          obtain ⟨q1, q2⟩ := bodies_pure hst (by rw [HBF.out]; exact HRT.out) HFIT.out
          rw [HBF.out, JL.out] at q2
          have Q1 := Lib.hid q1
          have Q2 := Lib.hid q2
          have P5 := Lib.hid p5
          have P6 := Lib.hid p6
          have P7 := Lib.hid p7
          obtain ⟨_, _, _, _, _, _, h9⟩ := (HRL.out _ HO.out).at9 p1
          have c6 := h9.c6
          have c7 := h9.c7
          have hl9 := h9.lt
          rw [p2] at c6
          rw [p3] at c7
          have hcl : L.length ≤ cap1 ∧ cap1 ≤ 9223372036854775807 := by
            obtain ⟨A0, c0, hv, h1, h2, _⟩ := HRL.out _ HO.out
            simp only [Value.slice.injEq] at hv
            unfold maxLen at h2
            omega
          have hxl : x.flat.length = x.count := flat_count x
          generalize x.count = xc at *
          generalize e.count = ec at *
          have hw1 : IntKind.i64.wrap ((k : Int) + 1) = (k : Int) + 1 := IntWalk.i64_in _ (by omega)
          have hw2 : IntKind.i64.wrap ((k : Int) + 1 + (xc : Int)) = (k : Int) + 1 + xc := IntWalk.i64_in _ (by omega)
          have hw3 : IntKind.i64.wrap ((k : Int) + 1 + (xc : Int) + (ec : Int)) = (k : Int) + 1 + xc + ec := IntWalk.i64_in _ (by omega)
          have hk0 : (0 : Int) ≤ (k : Int) := by omega
          have hk1 : (k : Int) < (L.length : Int) := by omega
          have hend : k + 1 + xc + ec ≤ L.length := by omega
          have P4 := Lib.hid p4
          have HXL := Lib.hid hxl
          clear hst q1 q2 p1 p2 p3 p4 p5 p6 p7 h9 hxl
          obtain ⟨AX, hax⟩ : ∃ AX, (if cap1 = k + 1 then some (⟨g1, 0, none⟩ : Addr) else some ⟨g1, (k + 1) * 9, none⟩) = AX := ⟨_, rfl⟩
          have htn1 : ((k : Int) + 1).toNat = k + 1 := by omega
          have htn2 : ((k : Int) + 1 + (xc : Int)).toNat = k + 1 + xc := by omega
          go_quiet (fail)
          go_upto_region 16 with (fail)
          have hbq := below_drew1 wr2 nq
          replace HO := Lib.hid (HO.out.on hbq)
          replace HB := Lib.hid (below_then HB.out hbq)
          generalize wr2.drewN nq = W at *
          have HBODY : Hid (ReadSt W (.slice AX xc (cap1 - (k + 1))) x.flat) := Lib.hid ((HRL.out W HO.out).cutAt (k := k + 1) (j := k + 1 + xc) (by omega) (by omega) (by omega) rfl (fun hk => by rw [← hax, if_neg (by omega), Nat.zero_add]) P6.out.symm)
          have HAX : Hid (k + 1 < cap1 → AX = some ⟨g1, (k + 1) * 9, none⟩) := Lib.hid (fun hk => by rw [← hax, if_neg (by omega)])
          clear hbq hax c6 c7 hl9
          go_wp2_with fail
          go_loop [11, 12] (fun bv jv => ∃ j : Nat, j ≤ xc ∧ jv = .int .i64 j ∧ bv = .bool (anyBrk x.flat j)) (fun _ jv => xc - (intOf jv).toNat)
          case atStart => exact ⟨0, Nat.zero_le _, rfl, by simp [anyBrk]⟩
          case round =>
            obtain ⟨j, hj, rfl, rfl⟩ := hrel
            rcases Nat.lt_or_ge j xc with hlt | hge
            case inl =>
              obtain ⟨t, htj⟩ : ∃ t, x.flat[j]? = some t := ⟨x.flat[j]'(by rw [HXL.out]; omega), List.getElem?_eq_getElem _⟩
              have HS := Lib.hid (anyBrk_succ htj)
              obtain rfl := HAX.out (by omega)
              obtain ⟨A9, c9, hv9, _, _, hr9⟩ := HBODY.out
              obtain ⟨g9, o9, _, _, _, _, _, _, hA9, h9⟩ := hr9 j t htj
              simp only [Value.slice.injEq] at hv9
              obtain ⟨rfl, _, _⟩ := hv9
              simp only [Option.some.injEq, Addr.mk.injEq] at hA9
              obtain ⟨rfl, rfl, _⟩ := hA9
              have x0 := h9.c0
              have xl := h9.lt
              have hj0 : (0 : Int) ≤ (j : Int) := by omega
              have hj1 : (j : Int) < (xc : Int) := by omega
              have hwj : IntKind.i64.wrap ((j : Int) + 1) = (j : Int) + 1 := IntWalk.i64_in _ (by omega)
              clear h9 hr9 htj
              cases hbk : anyBrk x.flat j with
              | true =>
                have HE : Hid (anyBrk x.flat (j + 1) = true) := Lib.hid (by rw [HS.out, hbk]; rfl)
                go_wp2_with fail
                go_round
                case rel => exact ⟨j + 1, by omega, by go_num, by rw [HE.out]⟩
                case measure => simp [intOf]; omega
              | false =>
                have HE : Hid (anyBrk x.flat (j + 1) = (t.kind == 13)) := Lib.hid (by rw [HS.out, hbk]; rfl)
                go_wp2_with fail
                go_round
                case rel => exact ⟨j + 1, by omega, by go_num, by rw [HE.out]⟩
                case measure => simp [intOf]; omega
            case inr =>
              obtain rfl : j = xc := by omega
              obtain ⟨bk, hbk⟩ : ∃ bk, anyBrk x.flat j = bk := ⟨_, rfl⟩
              have HBK := Lib.hid hbk
              rw [hbk]
              clear hbk
              have hK1 : K1.length = L.length := by rw [← HM.out, List.length_map]
              have HK1 := Lib.hid hK1
              have hsz := HB.out.size
              have HLT : Hid (g1 < W.heap.size) := Lib.hid (row_lt HO.out.row g1 rfl)
              obtain ⟨E, hE⟩ : ∃ E, k + 1 + j + ec = E := ⟨_, rfl⟩
              have HE := Lib.hid hE
              have hEI : (k : Int) + 1 + (j : Int) + (ec : Int) = (E : Int) := by omega
              have hEl : E ≤ L.length := by omega
              rw [hEI]
              have HTK : Hid ((K1.take k).length = k) := Lib.hid (by rw [List.length_take, hK1]; omega)
              have HDR : Hid ((K1.drop E).length = L.length - E) := Lib.hid (by rw [List.length_drop, hK1])
              have hkl : k ≤ L.length := by omega
              have hE0 : (0 : Int) ≤ (E : Int) := by omega
              have hE1 : (E : Int) ≤ (L.length : Int) := by omega
              have hE2 : L.length ≤ cap1 := hcl.1
              have hE3 : E ≤ cap1 := by omega
              clear hK1 hE hEI hw1 hw2 hw3 htn1 htn2
              go_wp2_with (at_builtin; refine wpList_append_own _ rfl (.tmp 106) (.tmp 109) 24 rfl W.heap.size 31 i0 (.agg #[.int .i64 0, .string ⟨#[]⟩, .string ⟨#[]⟩, .slice none 0 0, .slice none 0 0, .int .i64 0, .int .i64 0, .int .i64 0, .int .i64 0]) 9 120 Tryz.underlying24 HZ.out.1 HZ.out.2.1 HZ.out.2.2.1 HZ.out.2.2.2 rfl (by decide) _ 0 (cellsV []) rfl ?faO ⟨g1, 0, none⟩ k cap1 (cellsV (K1.take k)) rfl ?fal ?fa1 ?fa2 ?fa3 ?fa4 ?fa5 ?_)
              case faO => exact (ownK_new W).row
              case fal => rw [cellsV_len, HTK.out]
              case fa1 =>
                intro q u hu
                have h1 := (HO.out.on ((Below.refl _ _).alloc (Nat.le_refl _) (.cells #[] 31))).newsTake k q u hu
                rw [add_zero4] at h1
                exact h1
              case fa2 => exact cellsV_one (fun z hz => HO.out.rds z (List.mem_of_mem_take hz))
              case fa3 => unfold maxLen; omega
              case fa4 => omega
              intro v5 w5 hown5 hgrow5 _
              have hbn := (Below.refl W.heap.size W).alloc (Nat.le_refl _) (.cells #[] 31)
              have hO5 : OwnK w5 w.heap.size v5 (K1.take k) := by
                have := ((ownK_new W).low hsz).app (M := K1.take k) (fun z hz => (HO.out.on hbn).rds z (List.mem_of_mem_take hz)) (by rw [HTK.out, show ([] : List Sv).length + k = k from by simp]; exact row_low (by simpa using hown5) hsz) hgrow5
                simpa using this
              have hk5 := (KeepP.of (P := fun q => q = W.heap.size) hbn).trans (KeepP.grown hgrow5) (R := fun q => q = W.heap.size) (fun _ _ h => h) (fun q _ h => by simpa [Value.ownBlock] using h.symm)
              have hB5 : Below W.heap.size W w5 := hk5.below (fun q hq e => by omega) (Nat.le_refl _)
              replace HO := Lib.hid (HO.out.on hB5)
              have HO5 := Lib.hid hO5
              replace HBODY := Lib.hid (HBODY.out.on hB5)
              replace HB := Lib.hid (below_then HB.out hB5)
              have hsz5 := HB.out.size
              have HNE : Hid (∀ q, v5.ownBlock = some q → W.heap.size ≤ q) := Lib.hid (fun q hq => (row_type hown5 q hq).1)
              clear hown5 hgrow5 hbn hO5 hk5 hB5 hsz
              obtain ⟨AY, hay⟩ : ∃ AY : Option Addr, (if cap1 = E then (some ⟨g1, 0, none⟩ : Option Addr) else some ⟨g1, E * 9, none⟩) = AY := ⟨_, rfl⟩
              obtain ⟨ad, had⟩ : ∃ ad, AY = some ad := by rw [← hay]; split <;> exact ⟨_, rfl⟩
              have HAD : Hid ((if cap1 = E then (some ⟨g1, 0, none⟩ : Option Addr) else some ⟨g1, E * 9, none⟩) = some ad) := Lib.hid (by rw [hay, had])
              have HAY := Lib.hid had
              clear had
              go_wp2_with (at_builtin; rw [HAY.out]; refine wpList_append_own _ rfl (.tmp 111) (.tmp 114) 24 rfl w.heap.size 31 i0 (.agg #[.int .i64 0, .string ⟨#[]⟩, .string ⟨#[]⟩, .slice none 0 0, .slice none 0 0, .int .i64 0, .int .i64 0, .int .i64 0, .int .i64 0]) 9 120 Tryz.underlying24 HZ.out.1 HZ.out.2.1 HZ.out.2.2.1 HZ.out.2.2.2 rfl (by decide) v5 (K1.take k).length (cellsV (K1.take k)) rfl ?fbO ad (L.length - E) (cap1 - E) (cellsV (K1.drop E)) rfl ?fbl ?fb1 ?fb2 ?fb3 ?fb4 ?fb5 ?_)
              case fbO => exact HO5.out.row
              case fbl => rw [cellsV_len, HDR.out]
              case fb1 => exact HO.out.newsDrop E (by rw [HK1.out]; omega) HAD.out
              case fb2 => exact cellsV_one (fun z hz => HO.out.rds z (List.mem_of_mem_drop hz))
              case fb3 => rw [HTK.out]; unfold maxLen; omega
              case fb4 => rw [HTK.out]; omega
              case fb5 => exact hsz5
              intro v6 w6 hown6 hgrow6 _
              have hO6 : OwnK w6 w.heap.size v6 (K1.take k ++ K1.drop E) := HO5.out.app (fun z hz => HO.out.rds z (List.mem_of_mem_drop hz)) (by rw [HDR.out, List.length_take]; exact hown6) hgrow6
              have hk6 := KeepP.grown hgrow6
              have hn6 := row_nodes HO5.out.row
              replace HO := Lib.hid (HO.out.keep hk6 (fun q hq e => by have := HNE.out q e; have := HLT.out; simp [Value.ownBlock] at hq; omega) hn6)
              replace HB := Lib.hid (HB.out.trans (HO5.out.below hgrow6 (Nat.le_refl _) hsz5))
              replace HBODY : Hid (ReadSt w6 (.slice AX j (cap1 - (k + 1))) x.flat) := Lib.hid (by
                have hEq := HE.out
                exact (HRL.out w6 HO.out).cutAt (k := k + 1) (j := k + 1 + j) (by omega) (by omega) (by omega) rfl (fun hk => by rw [HAX.out hk, Nat.zero_add]) P6.out.symm)
              obtain ⟨A6, c6, rfl⟩ := row_slice hO6.row
              have hlen6 : (K1.take k ++ K1.drop E).length = k + (L.length - E) := by rw [List.length_append, HTK.out, HDR.out]
              have HR6 : Hid (ReadSt w6 (.slice A6 (k + (L.length - E)) c6) (p.flat ++ r.flat)) := Lib.hid (by
                have := hO6.read
                rw [List.map_append, List.map_take, List.map_drop, HM.out, P5.out, ← HE.out, P7.out, HE.out, hlen6] at this
                exact this)
              rw [hlen6]
              have HSR : Hid (∀ z ∈ p.flat ++ r.flat, SmallS z) := Lib.hid (fun z hz => HSM.out z (by
                rcases List.mem_append.1 hz with h | h
                · rw [← P5.out] at h; exact List.mem_of_mem_take h
                · rw [← P7.out] at h; exact List.mem_of_mem_drop h))
              have HSX : Hid (∀ z ∈ x.flat, SmallS z) := Lib.hid (fun z hz => HSM.out z (by rw [← P6.out] at hz; exact List.mem_of_mem_take (List.mem_of_mem_drop hz)))
              clear hown6 hgrow6 hO6 hk6 hn6 hlen6 hsz5 HO5 HNE HLT hay
              cases bk with
              | true =>
                go_wp2_with fail
                refine (sright_any _ _ _ HR6.out HSR.out (HT.out.on HB.out)).mono ?_
                rw [Q1.out]
                rintro e w7 ⟨rfl, hb⟩
                replace HB := Lib.hid (below_then HB.out hb)
                clear hb
                go_wp2_with fail
                refine (fixed_any _ (HT.out.on HB.out)).mono ?_
                rintro e w8 ⟨rfl, hb⟩
                go_wp2_with fail
                go_ret
                exact ⟨rfl, below_then HB.out hb⟩
              | false =>
                obtain ⟨x1, x2⟩ := Q2.out (anyBrk_all (by rw [HXL.out]; exact HBK.out))
                have X1 := Lib.hid x1
                have X2 := Lib.hid x2
                clear x1 x2
                go_wp2_with fail
                refine (sright_any _ _ _ HBODY.out HSX.out (HT.out.on HB.out)).mono ?_
                rw [X1.out]
                rintro e w7 ⟨rfl, hb⟩
                replace HBODY := Lib.hid (HBODY.out.on hb)
                replace HR6 := Lib.hid (HR6.out.on hb)
                replace HB := Lib.hid (below_then HB.out hb)
                clear hb
                by_cases hj0 : j = 0
                · have hji : ((j : Int) == 0) = true := by rw [hj0]; rfl
                  have HJ0 := Lib.hid hj0
                  clear hj0
                  go_wp2_with fail
                  refine (sright_any _ _ _ HR6.out HSR.out (HT.out.on HB.out)).mono ?_
                  rw [Q1.out]
                  rintro e w8 ⟨rfl, hb⟩
                  replace HB := Lib.hid (below_then HB.out hb)
                  clear hb
                  go_wp2_with fail
                  refine (fixed_any _ (HT.out.on HB.out)).mono ?_
                  rintro e w9 ⟨rfl, hb⟩
                  go_wp2_with fail
                  go_ret
                  exact ⟨rfl, below_then HB.out hb⟩
                · have hji : ((j : Int) == 0) = false := by simpa using hj0
                  have hdx := X2.out (by omega)
                  obtain ⟨dx, hdx2⟩ : ∃ d, depthS x.flat = d := ⟨_, rfl⟩
                  rw [hdx2] at hdx
                  have HDX := Lib.hid hdx2
                  clear hdx2 hj0
                  go_wp2_with fail
                  refine (sdepth_any _ _ _ HBODY.out HSX.out (HT.out.on HB.out)).mono ?_
                  rw [HDX.out]
                  rintro e w8 ⟨rfl, hb⟩
                  replace HR6 := Lib.hid (HR6.out.on hb)
                  replace HB := Lib.hid (below_then HB.out hb)
                  clear hb
                  go_wp2_with fail
                  refine (sright_any _ _ _ HR6.out HSR.out (HT.out.on HB.out)).mono ?_
                  rw [Q1.out]
                  rintro e w9 ⟨rfl, hb⟩
                  replace HB := Lib.hid (below_then HB.out hb)
                  clear hb
                  go_wp2_with fail
                  refine (fixed_any _ (HT.out.on HB.out)).mono ?_
                  rintro e w10 ⟨rfl, hb⟩
                  go_wp2_with fail
                  go_ret
                  exact ⟨rfl, below_then HB.out hb⟩
end Go.Proofs.YtpeohfgadnfnpaaGreatDoor
