/-
  DERIVED. Layer 3: the walk of the law ExprWraps: for all nodes and every number it is true.
-/
import Derived.Test.YtcmbcbdijmknnaaDoorBack
namespace Go.Proofs.YtcmbcbdijmknnaaDoor
open Go.RowKit

def headN (o : Int) : Nod := ⟨o, 0, [], 0⟩
theorem head_ok {o : Int} (h : 3 ≤ o) : nodOK (headN o) = true := by
  unfold nodOK headN
  rw [if_neg (by show ¬ o = 1; omega), if_neg (by show ¬ o = 2; omega)]
  simp
theorem and_low (n : Int) (m : Nat) (hm : m ≤ 65535) : 0 ≤ bits .and .i64 n m ∧ bits .and .i64 n m ≤ m := by
  have e : bits .and .i64 n m = IntKind.i64.wrap ((BitVec.ofInt 64 n &&& BitVec.ofInt 64 m).toNat : Int) := rfl
  have h : (BitVec.ofInt 64 n &&& BitVec.ofInt 64 m).toNat ≤ m := by
    rw [BitVec.toNat_and]
    refine Nat.le_trans Nat.and_le_right ?_
    rw [BitVec.toNat_ofInt]; omega
  rw [e, IntKind.wrap_i64]
  omega
/-- What an expression is with a sign ahead of it. -/
theorem wrap_one {L : List Nod} (h : rightL L = true) {o : Int} (ho : o = 3 ∨ o = 4) : rightL (headN o :: L) = (decide (depthL L < 12) && decide (L.length < 40)) ∧ (rightL (headN o :: L) = true → depthL (headN o :: L) = depthL L + 1) := by
  obtain ⟨x, rfl, hg, hd, hs, _, hdp⟩ := good_right h
  have hk : (Ex.un (headN o) x).ok := ⟨by show takesN o = some 1; unfold takesN; rw [if_neg (by omega), if_pos ho], hg.1⟩
  have e : headN o :: x.flat = (Ex.un (headN o) x).flat := rfl
  have ha : (Ex.un (headN o) x).flat.all nodOK = true := by
    rw [← e, List.all_cons, head_ok (by omega), hg.2]; rfl
  have hr : rightL (headN o :: x.flat) = (decide (x.size + 1 ≤ 40) && decide (x.deep + 1 ≤ 12)) := by
    rw [e, right_flat hk, ha, Bool.and_true]; rfl
  refine ⟨?_, fun hr2 => ?_⟩
  · rw [hr, hdp, flat_len, Bool.and_comm]
    congr 1
  · rw [hdp]
    unfold depthL
    rw [hr2, e, whole_flat hk]
    simp [Ex.deep]
theorem wrap_two {L M : List Nod} (h : rightL L = true) (h2 : rightL M = true) {o : Int} (ho : 5 ≤ o ∧ o ≤ 12) : rightL (headN o :: (L ++ M)) = (decide (max (depthL L) (depthL M) < 12) && decide (L.length + M.length < 40)) ∧
    (rightL (headN o :: (L ++ M)) = true → depthL (headN o :: (L ++ M)) = max (depthL L) (depthL M) + 1) ∧ endV (headN o :: (L ++ M)) 1 = 1 + L.length := by
  obtain ⟨x, rfl, hg, hd, hs, _, hdp⟩ := good_right h
  obtain ⟨y, rfl, hg2, hd2, hs2, _, hdp2⟩ := good_right h2
  have hk : (Ex.bin (headN o) x y).ok := ⟨by show takesN o = some 2; unfold takesN; rw [if_neg (by omega), if_neg (by omega), if_pos (by omega)], hg.1, hg2.1⟩
  have e : headN o :: (x.flat ++ y.flat) = (Ex.bin (headN o) x y).flat := rfl
  have ha : (Ex.bin (headN o) x y).flat.all nodOK = true := by
    rw [← e, List.all_cons, head_ok (by omega), List.all_append, hg.2, hg2.2]; rfl
  have hr : rightL (headN o :: (x.flat ++ y.flat)) = (decide (x.size + y.size + 1 ≤ 40) && decide (max x.deep y.deep + 1 ≤ 12)) := by
    rw [e, right_flat hk, ha, Bool.and_true]; rfl
  refine ⟨?_, fun hr2 => ?_, ?_⟩
  · rw [hr, hdp, hdp2, flat_len, flat_len, Bool.and_comm]
    congr 1
  · rw [hdp, hdp2]
    unfold depthL
    rw [hr2, e, whole_flat hk]
    simp [Ex.deep]
  · have := endV_nat (headN o :: (x.flat ++ y.flat)) 1
    rw [show endV (headN o :: (x.flat ++ y.flat)) 1 = endV (headN o :: (x.flat ++ y.flat)) ((1 : Nat) : Int) from rfl, this]
    show (match endC 0 (x.flat ++ y.flat) with | some k => ((1 + k : Nat) : Int) | none => -1) = _
    rw [endC_flat x _ hg.1, flat_len]
    simp
theorem fresh_nod (w : World) (o : Int) : OwnN (w.alloc (.cells #[.int .i64 o, .int .i64 0, .string ⟨#[]⟩, .int .i64 0] 30)) w.heap.size (.slice (some ⟨w.heap.size, 0, none⟩) 1 1) [headN o] :=
  ⟨rfl, .inr ⟨w.heap.size, 1, _, rfl, Nat.le_refl _, heap_alloc_new w _, Nat.le_refl _, by decide, rfl, rfl⟩⟩
theorem fresh_below {w W' : World} {x : Obj} (hg : (w.alloc x).grownBy W' (some w.heap.size)) : Below w.heap.size w W' :=
  ((Below.refl w.heap.size w).alloc (Nat.le_refl _) x).grown hg (by simp) (fun k hk => by simp at hk; omega)

set_option maxRecDepth 100000 in
set_option maxHeartbeats 8000000 in
theorem wraps_any (A : Option Addr) (n c : Nat) (R : Nat → RawN) (A' : Option Addr) (n' c' : Nat) (R' : Nat → RawN) (i : Int) (w : World) (hA : ArgN w A n R) (hA' : ArgN w A' n' R') (ht : Tabs w) :
    Calls Tryd.prog 10 #[.slice A n c, .slice A' n' c', .int .i64 i] w (IsTrue w) := by
  obtain ⟨i0, hi, hz0, hz1, hz2⟩ := info_parts info30
  have HZ := Lib.hid (show Tryd.prog.info? 30 = some i0 ∧ i0.zero = some (.agg #[.int .i64 0, .int .i64 0, .string ⟨#[]⟩, .int .i64 0]) ∧ i0.size = 4 ∧ i0.bytes = 40 from ⟨hi, hz0, hz1, hz2⟩)
  clear hi hz0 hz1 hz2
  have HA := Lib.hid hA
  have HA' := Lib.hid hA'
  have HT := Lib.hid ht
  have hq1 : 0 ≤ bits .and .i64 i 1 ∧ bits .and .i64 i 1 ≤ 1 := and_low i 1 (by decide)
  have hq7 : 0 ≤ bits .and .i64 i 7 ∧ bits .and .i64 i 7 ≤ 7 := and_low i 7 (by decide)
  have hll := rawN_len R (min n 60)
  have HSM := Lib.hid (rawN_small R (min n 60))
  have hll' := rawN_len R' (min n' 60)
  have HSM' := Lib.hid (rawN_small R' (min n' 60))
  clear hA hA' ht
  go_enter Tryd.func10, Tryd.ntmps10
  go_wp2_with fail
  refine (cut_any A n c R _ HA.out).mono ?_
  generalize rawN R (min n 60) = L at *
  have hl60 : L.length ≤ 60 := by omega
  clear hll
  rintro e w1 ⟨v, rfl, ho, hb⟩
  have HO := Lib.hid ho.read
  have HB := Lib.hid hb
  obtain ⟨A1, c1, rfl, hc1, _⟩ := ho.read
  clear ho hb
  go_wp2_with fail
  refine (cut_any A' n' c' R' _ (HA'.out.on HB.out)).mono ?_
  generalize rawN R' (min n' 60) = M at *
  have hm60 : M.length ≤ 60 := by omega
  clear hll'
  rintro e w2 ⟨v, rfl, ho, hb⟩
  have HO' := Lib.hid ho.read
  replace HO := Lib.hid (HO.out.on hb)
  replace HB := Lib.hid (below_then HB.out hb)
  obtain ⟨A2, c2, rfl, hc2, _⟩ := ho.read
  clear ho hb
  go_wp2_with fail
  refine (right_any _ L _ HO.out (by omega) HSM.out).mono ?_
  cases hr : rightL L with
  | false =>
    rintro e w3 ⟨rfl, hb⟩
    replace HB := Lib.hid (below_then HB.out hb)
    clear hb
    go_wp2_with fail
    refine (fixed_any _ (HT.out.on HB.out)).mono ?_
    rintro e w4 ⟨rfl, hb⟩
    go_wp2_with fail
    go_ret
    exact ⟨rfl, below_then HB.out hb⟩
  | true =>
    rintro e w3 ⟨rfl, hb⟩
    replace HO := Lib.hid (HO.out.on hb)
    replace HO' := Lib.hid (HO'.out.on hb)
    replace HB := Lib.hid (below_then HB.out hb)
    have HR := Lib.hid hr
    clear hb hr
    go_wp2_with fail
    refine (right_any _ M _ HO'.out (by omega) HSM'.out).mono ?_
    cases hr : rightL M with
    | false =>
      rintro e w4 ⟨rfl, hb⟩
      replace HB := Lib.hid (below_then HB.out hb)
      clear hb
      go_wp2_with fail
      refine (fixed_any _ (HT.out.on HB.out)).mono ?_
      rintro e w5 ⟨rfl, hb⟩
      go_wp2_with fail
      go_ret
      exact ⟨rfl, below_then HB.out hb⟩
    | true =>
      rintro e w4 ⟨rfl, hb⟩
      replace HO := Lib.hid (HO.out.on hb)
      replace HO' := Lib.hid (HO'.out.on hb)
      replace HB := Lib.hid (below_then HB.out hb)
      have HR' := Lib.hid hr
      clear hb hr
      go_wp2_with fail
      refine (depth_any _ L _ HO.out (by omega) HSM.out).mono ?_
      generalize hd0 : depthL L = d0 at *
      have HD0 := Lib.hid hd0
      rintro e w5 ⟨rfl, hb⟩
      replace HO := Lib.hid (HO.out.on hb)
      replace HO' := Lib.hid (HO'.out.on hb)
      replace HB := Lib.hid (below_then HB.out hb)
      clear hb hd0
      go_wp2_with fail
      refine (depth_any _ M _ HO'.out (by omega) HSM'.out).mono ?_
      generalize hd1 : depthL M = d1 at *
      have HD1 := Lib.hid hd1
      rintro e w6 ⟨rfl, hb⟩
      replace HO := Lib.hid (HO.out.on hb)
      replace HO' := Lib.hid (HO'.out.on hb)
      replace HB := Lib.hid (below_then HB.out hb)
      clear hb hd1
      obtain ⟨g1, o1, k1, hv1, hk1, hk2, _⟩ := HO.out.addr (by intro h0; have := HR.out; rw [h0] at this; exact absurd this (by decide))
      simp only [Value.slice.injEq] at hv1
      obtain ⟨rfl, _, rfl⟩ := hv1
      obtain ⟨g2, o2, k2, hv1, hk3, hk4, _⟩ := HO'.out.addr (by intro h0; have := HR'.out; rw [h0] at this; exact absurd this (by decide))
      simp only [Value.slice.injEq] at hv1
      obtain ⟨rfl, _, rfl⟩ := hv1
      have hw1 := hk2
      unfold maxLen at hk2 hk4
      go_wp2_with (at_builtin; refine wpList_append_own_at _ rfl (.tmp 34) (.tmp 35) 24 rfl w6.heap.size 30 i0 (.agg #[.int .i64 0, .int .i64 0, .string ⟨#[]⟩, .int .i64 0]) 4 40 Tryd.underlying24 HZ.out.1 HZ.out.2.1 HZ.out.2.2.1 HZ.out.2.2.2 rfl (by decide) (.slice (some ⟨w6.heap.size, 0, none⟩) 1 1) 1 (cellsN [headN (3 + bits .and .i64 i 1)]) rfl ?cO ⟨g1, o1, none⟩ L.length c1 (cellsN L) rfl ?c0 ?c1 ?c2 ?c3 ?c4 ?c5 ?_)
      case cO => exact fresh_nod _ _
      case c0 => exact cellsN_len _
      case c1 => exact read_news (HO.out.on ((Below.refl _ _).alloc (Nat.le_refl _) _))
      case c2 => exact nod_one _
      case c3 => unfold maxLen; omega
      case c4 => omega
      case c5 => simp
      intro v7 w7 hown hgrow _ _
      have HK7 : Hid (ReadN w7 v7 (headN (3 + bits .and .i64 i 1) :: L)) := Lib.hid (OwnN.read (B := w6.heap.size) (by unfold OwnN; rw [show headN (3 + bits .and .i64 i 1) :: L = [headN (3 + bits .and .i64 i 1)] ++ L from rfl, cellsN_app, List.length_append]; exact hown))
      have hb := fresh_below hgrow
      replace HO := Lib.hid (HO.out.on hb)
      replace HO' := Lib.hid (HO'.out.on hb)
      replace HB := Lib.hid (below_then HB.out hb)
      obtain ⟨A7, c7, rfl, _⟩ := HK7.out
      clear hown hgrow hb
      go_wp2_with (at_builtin; refine wpList_append_own_at _ rfl (.tmp 41) (.tmp 42) 24 rfl w7.heap.size 30 i0 (.agg #[.int .i64 0, .int .i64 0, .string ⟨#[]⟩, .int .i64 0]) 4 40 Tryd.underlying24 HZ.out.1 HZ.out.2.1 HZ.out.2.2.1 HZ.out.2.2.2 rfl (by decide) (.slice (some ⟨w7.heap.size, 0, none⟩) 1 1) 1 (cellsN [headN (5 + bits .and .i64 i 7)]) rfl ?cO ⟨g1, o1, none⟩ L.length c1 (cellsN L) rfl ?c0 ?c1 ?c2 ?c3 ?c4 ?c5 ?_)
      case cO => exact fresh_nod _ _
      case c0 => exact cellsN_len _
      case c1 => exact read_news (HO.out.on ((Below.refl _ _).alloc (Nat.le_refl _) _))
      case c2 => exact nod_one _
      case c3 => unfold maxLen; omega
      case c4 => omega
      case c5 => simp
      intro v8 w8 hown hgrow _ _
      have HK8 : Hid (OwnN w8 w7.heap.size v8 (headN (5 + bits .and .i64 i 7) :: L)) := Lib.hid (by unfold OwnN; rw [show headN (5 + bits .and .i64 i 7) :: L = [headN (5 + bits .and .i64 i 7)] ++ L from rfl, cellsN_app, List.length_append]; exact hown)
      have hb := fresh_below hgrow
      have hsz := hb.size
      replace HO' := Lib.hid (HO'.out.on hb)
      have HB8 := Lib.hid hb
      obtain ⟨g8, c8, rfl⟩ := ownN_form HK8.out (by simp)
      clear hown hgrow hb
      go_wp2_with (at_builtin; refine wpList_append_own_at _ rfl (.tmp 44) (.tmp 45) 24 rfl w7.heap.size 30 i0 (.agg #[.int .i64 0, .int .i64 0, .string ⟨#[]⟩, .int .i64 0]) 4 40 Tryd.underlying24 HZ.out.1 HZ.out.2.1 HZ.out.2.2.1 HZ.out.2.2.2 rfl (by decide) (.slice (some ⟨g8, 0, none⟩) (headN (5 + bits .and .i64 i 7) :: L).length c8) (headN (5 + bits .and .i64 i 7) :: L).length (cellsN (headN (5 + bits .and .i64 i 7) :: L)) rfl ?cO ⟨g2, o2, none⟩ M.length c2 (cellsN M) rfl ?c0 ?c1 ?c2 ?c3 ?c4 ?c5 ?_)
      case cO => exact HK8.out
      case c0 => exact cellsN_len _
      case c1 => exact read_news HO'.out
      case c2 => exact nod_one _
      case c3 => unfold maxLen; simp; omega
      case c4 => simp; omega
      case c5 => exact hsz
      intro v9 w9 hown hgrow _ _
      have HK9 : Hid (ReadN w9 v9 (headN (5 + bits .and .i64 i 7) :: (L ++ M))) := Lib.hid (OwnN.read (B := w7.heap.size) (by unfold OwnN; rw [show headN (5 + bits .and .i64 i 7) :: (L ++ M) = (headN (5 + bits .and .i64 i 7) :: L) ++ M from rfl, cellsN_app, List.length_append]; exact hown))
      have hb := HB8.out.grown hgrow hsz (fun k hk => (ownN_block HK8.out k hk).1)
      replace HK7 := Lib.hid (HK7.out.on hb)
      replace HB := Lib.hid (below_then HB.out hb)
      obtain ⟨A9, c9, rfl, _⟩ := HK9.out
      clear hown hgrow hb HB8 HK8 hsz
      have hsm1 : SmallN (headN (3 + bits .and .i64 i 1) :: L) := by
        intro a ha; rcases List.mem_cons.1 ha with rfl | ha
        · simp [headN]
        · exact HSM.out a ha
      have hsm2 : SmallN (headN (5 + bits .and .i64 i 7) :: (L ++ M)) := by
        intro a ha; rcases List.mem_cons.1 ha with rfl | ha
        · simp [headN]
        · rcases List.mem_append.1 ha with ha | ha
          · exact HSM.out a ha
          · exact HSM'.out a ha
      obtain ⟨q1, q2⟩ := wrap_one HR.out (o := 3 + bits .and .i64 i 1) (by omega)
      obtain ⟨p1, p2, p3⟩ := wrap_two HR.out HR'.out (o := 5 + bits .and .i64 i 7) (by omega)
      rw [HD0.out] at q1 q2
      rw [HD0.out, HD1.out] at p1 p2
      have hlen1 : (headN (3 + bits .and .i64 i 1) :: L).length = L.length + 1 := rfl
      have hlen2 : (headN (5 + bits .and .i64 i 7) :: (L ++ M)).length = L.length + M.length + 1 := by simp
      rw [hlen2]
      replace HK7 : Hid (ReadN w9 (.slice A7 (L.length + 1) c7) (headN (3 + bits .and .i64 i 1) :: L)) := Lib.hid HK7.out
      replace HK9 : Hid (ReadN w9 (.slice A9 (L.length + M.length + 1) c9) (headN (5 + bits .and .i64 i 7) :: (L ++ M))) := Lib.hid (by have h := HK9.out; rw [hlen2] at h; exact h)
      clear hq1 hq7
      generalize headN (3 + bits .and .i64 i 1) :: L = M1 at *
      generalize headN (5 + bits .and .i64 i 7) :: (L ++ M) = M2 at *
      obtain ⟨x1, hx1, _, hx2, _, _, hx3⟩ := good_right HR.out
      obtain ⟨y1, hy1, _, hy2, _, _, hy3⟩ := good_right HR'.out
      have hd12 : d0 ≤ 12 := by rw [← HD0.out, hx3]; exact hx2
      have hd13 : d1 ≤ 12 := by rw [← HD1.out, hy3]; exact hy2
      clear hx1 hy1 hx2 hx3 hy2 hy3
      have HS1 := Lib.hid hsm1
      have HS2 := Lib.hid hsm2
      have HP3 : Hid (endV M2 1 = 1 + (L.length : Int)) := Lib.hid p3
      clear hsm1 hsm2 p3
      generalize hL : L.length = nL at *
      generalize hM : M.length = nM at *
      have hM1 : M1.length ≤ 10000 := by omega
      have hM2 : M2.length ≤ 10000 := by omega
      clear hL hM hlen1 hlen2
      by_cases e1 : d0 < 12
      · by_cases e2 : nL < 40
        · by_cases e3 : max d0 d1 < 12
          · by_cases e4 : nL + nM < 40
            · have HQ1 : Hid (rightL M1 = true) := Lib.hid (by rw [q1]; simp; omega)
              have HP1 : Hid (rightL M2 = true) := Lib.hid (by rw [p1]; simp; omega)
              have HQ2 : Hid ((depthL M1 : Int) = (d0 : Int) + 1) := Lib.hid (by rw [q2 HQ1.out]; omega)
              have HP2 : Hid ((depthL M2 : Int) = max (d0 : Int) (d1 : Int) + 1) := Lib.hid (by rw [p2 HP1.out]; omega)
              have i1 : ((d0 : Int) < 12) := by omega
              have i2 : ((nL : Int) < 40) := by omega
              have i3 : (max (d0 : Int) (d1 : Int) < 12) := by omega
              have i4 : ((nL : Int) + (nM : Int) < 40) := by omega
              clear q1 q2 p1 p2
              go_wp2_with fail
              refine (right_any _ M1 _ HK7.out hM1 HS1.out).mono ?_
              rw [HQ1.out]
              rintro e w10 ⟨rfl, hb⟩
              replace HK7 := Lib.hid (HK7.out.on hb)
              replace HK9 := Lib.hid (HK9.out.on hb)
              replace HB := Lib.hid (below_then HB.out hb)
              clear hb
              go_wp2_with fail
              refine (right_any _ M2 _ HK9.out hM2 HS2.out).mono ?_
              rw [HP1.out]
              rintro e w11 ⟨rfl, hb⟩
              replace HK7 := Lib.hid (HK7.out.on hb)
              replace HK9 := Lib.hid (HK9.out.on hb)
              replace HB := Lib.hid (below_then HB.out hb)
              clear hb
              go_wp2_with fail
              refine (depth_any _ M1 _ HK7.out hM1 HS1.out).mono ?_
              rw [HQ2.out]
              rintro e w12 ⟨rfl, hb⟩
              replace HK9 := Lib.hid (HK9.out.on hb)
              replace HB := Lib.hid (below_then HB.out hb)
              clear hb
              go_wp2_with fail
              refine (depth_any _ M2 _ HK9.out hM2 HS2.out).mono ?_
              rw [HP2.out]
              rintro e w13 ⟨rfl, hb⟩
              replace HK9 := Lib.hid (HK9.out.on hb)
              replace HB := Lib.hid (below_then HB.out hb)
              clear hb
              go_wp2_with fail
              refine (end_any _ M2 1 _ HK9.out hM2).mono ?_
              rw [HP3.out]
              rintro e w14 ⟨rfl, rfl⟩
              go_wp2_with fail
              refine (fixed_any _ (HT.out.on HB.out)).mono ?_
              rintro e w15 ⟨rfl, hb⟩
              go_wp2_with fail
              go_ret
              exact ⟨rfl, below_then HB.out hb⟩
            · have HQ1 : Hid (rightL M1 = true) := Lib.hid (by rw [q1]; simp; omega)
              have HP1 : Hid (rightL M2 = false) := Lib.hid (by rw [p1]; simp; omega)
              have HQ2 : Hid ((depthL M1 : Int) = (d0 : Int) + 1) := Lib.hid (by rw [q2 HQ1.out]; omega)
              have i1 : ((d0 : Int) < 12) := by omega
              have i2 : ((nL : Int) < 40) := by omega
              have i3 : (max (d0 : Int) (d1 : Int) < 12) := by omega
              have i4 : ¬ ((nL : Int) + (nM : Int) < 40) := by omega
              clear q1 q2 p1 p2
              go_wp2_with fail
              refine (right_any _ M1 _ HK7.out hM1 HS1.out).mono ?_
              rw [HQ1.out]
              rintro e w10 ⟨rfl, hb⟩
              replace HK7 := Lib.hid (HK7.out.on hb)
              replace HK9 := Lib.hid (HK9.out.on hb)
              replace HB := Lib.hid (below_then HB.out hb)
              clear hb
              go_wp2_with fail
              refine (right_any _ M2 _ HK9.out hM2 HS2.out).mono ?_
              rw [HP1.out]
              rintro e w11 ⟨rfl, hb⟩
              replace HK7 := Lib.hid (HK7.out.on hb)
              replace HK9 := Lib.hid (HK9.out.on hb)
              replace HB := Lib.hid (below_then HB.out hb)
              clear hb
              go_wp2_with fail
              refine (depth_any _ M1 _ HK7.out hM1 HS1.out).mono ?_
              rw [HQ2.out]
              rintro e w12 ⟨rfl, hb⟩
              replace HK9 := Lib.hid (HK9.out.on hb)
              replace HB := Lib.hid (below_then HB.out hb)
              clear hb
              go_wp2_with fail
              refine (end_any _ M2 1 _ HK9.out hM2).mono ?_
              rw [HP3.out]
              rintro e w14 ⟨rfl, rfl⟩
              go_wp2_with fail
              refine (fixed_any _ (HT.out.on HB.out)).mono ?_
              rintro e w15 ⟨rfl, hb⟩
              go_wp2_with fail
              go_ret
              exact ⟨rfl, below_then HB.out hb⟩
          · have HQ1 : Hid (rightL M1 = true) := Lib.hid (by rw [q1]; simp; omega)
            have HP1 : Hid (rightL M2 = false) := Lib.hid (by rw [p1]; simp; omega)
            have HQ2 : Hid ((depthL M1 : Int) = (d0 : Int) + 1) := Lib.hid (by rw [q2 HQ1.out]; omega)
            have i1 : ((d0 : Int) < 12) := by omega
            have i2 : ((nL : Int) < 40) := by omega
            have i3 : ¬ (max (d0 : Int) (d1 : Int) < 12) := by omega
            clear q1 q2 p1 p2
            go_wp2_with fail
            refine (right_any _ M1 _ HK7.out hM1 HS1.out).mono ?_
            rw [HQ1.out]
            rintro e w10 ⟨rfl, hb⟩
            replace HK7 := Lib.hid (HK7.out.on hb)
            replace HK9 := Lib.hid (HK9.out.on hb)
            replace HB := Lib.hid (below_then HB.out hb)
            clear hb
            go_wp2_with fail
            refine (right_any _ M2 _ HK9.out hM2 HS2.out).mono ?_
            rw [HP1.out]
            rintro e w11 ⟨rfl, hb⟩
            replace HK7 := Lib.hid (HK7.out.on hb)
            replace HK9 := Lib.hid (HK9.out.on hb)
            replace HB := Lib.hid (below_then HB.out hb)
            clear hb
            go_wp2_with fail
            refine (depth_any _ M1 _ HK7.out hM1 HS1.out).mono ?_
            rw [HQ2.out]
            rintro e w12 ⟨rfl, hb⟩
            replace HK9 := Lib.hid (HK9.out.on hb)
            replace HB := Lib.hid (below_then HB.out hb)
            clear hb
            go_wp2_with fail
            refine (end_any _ M2 1 _ HK9.out hM2).mono ?_
            rw [HP3.out]
            rintro e w14 ⟨rfl, rfl⟩
            go_wp2_with fail
            refine (fixed_any _ (HT.out.on HB.out)).mono ?_
            rintro e w15 ⟨rfl, hb⟩
            go_wp2_with fail
            go_ret
            exact ⟨rfl, below_then HB.out hb⟩
        · by_cases e3 : max d0 d1 < 12
          · have HQ1 : Hid (rightL M1 = false) := Lib.hid (by rw [q1]; simp; omega)
            have HP1 : Hid (rightL M2 = false) := Lib.hid (by rw [p1]; simp; omega)
            have i1 : ((d0 : Int) < 12) := by omega
            have i2 : ¬ ((nL : Int) < 40) := by omega
            have i3 : (max (d0 : Int) (d1 : Int) < 12) := by omega
            have i4 : ¬ ((nL : Int) + (nM : Int) < 40) := by omega
            clear q1 q2 p1 p2
            go_wp2_with fail
            refine (right_any _ M1 _ HK7.out hM1 HS1.out).mono ?_
            rw [HQ1.out]
            rintro e w10 ⟨rfl, hb⟩
            replace HK7 := Lib.hid (HK7.out.on hb)
            replace HK9 := Lib.hid (HK9.out.on hb)
            replace HB := Lib.hid (below_then HB.out hb)
            clear hb
            go_wp2_with fail
            refine (right_any _ M2 _ HK9.out hM2 HS2.out).mono ?_
            rw [HP1.out]
            rintro e w11 ⟨rfl, hb⟩
            replace HK7 := Lib.hid (HK7.out.on hb)
            replace HK9 := Lib.hid (HK9.out.on hb)
            replace HB := Lib.hid (below_then HB.out hb)
            clear hb
            go_wp2_with fail
            refine (end_any _ M2 1 _ HK9.out hM2).mono ?_
            rw [HP3.out]
            rintro e w14 ⟨rfl, rfl⟩
            go_wp2_with fail
            refine (fixed_any _ (HT.out.on HB.out)).mono ?_
            rintro e w15 ⟨rfl, hb⟩
            go_wp2_with fail
            go_ret
            exact ⟨rfl, below_then HB.out hb⟩
          · have HQ1 : Hid (rightL M1 = false) := Lib.hid (by rw [q1]; simp; omega)
            have HP1 : Hid (rightL M2 = false) := Lib.hid (by rw [p1]; simp; omega)
            have i1 : ((d0 : Int) < 12) := by omega
            have i2 : ¬ ((nL : Int) < 40) := by omega
            have i3 : ¬ (max (d0 : Int) (d1 : Int) < 12) := by omega
            clear q1 q2 p1 p2
            go_wp2_with fail
            refine (right_any _ M1 _ HK7.out hM1 HS1.out).mono ?_
            rw [HQ1.out]
            rintro e w10 ⟨rfl, hb⟩
            replace HK7 := Lib.hid (HK7.out.on hb)
            replace HK9 := Lib.hid (HK9.out.on hb)
            replace HB := Lib.hid (below_then HB.out hb)
            clear hb
            go_wp2_with fail
            refine (right_any _ M2 _ HK9.out hM2 HS2.out).mono ?_
            rw [HP1.out]
            rintro e w11 ⟨rfl, hb⟩
            replace HK7 := Lib.hid (HK7.out.on hb)
            replace HK9 := Lib.hid (HK9.out.on hb)
            replace HB := Lib.hid (below_then HB.out hb)
            clear hb
            go_wp2_with fail
            refine (end_any _ M2 1 _ HK9.out hM2).mono ?_
            rw [HP3.out]
            rintro e w14 ⟨rfl, rfl⟩
            go_wp2_with fail
            refine (fixed_any _ (HT.out.on HB.out)).mono ?_
            rintro e w15 ⟨rfl, hb⟩
            go_wp2_with fail
            go_ret
            exact ⟨rfl, below_then HB.out hb⟩
      · have HQ1 : Hid (rightL M1 = false) := Lib.hid (by rw [q1]; simp; omega)
        have HP1 : Hid (rightL M2 = false) := Lib.hid (by rw [p1]; simp; omega)
        have i1 : ¬ ((d0 : Int) < 12) := by omega
        have i3 : ¬ (max (d0 : Int) (d1 : Int) < 12) := by omega
        clear q1 q2 p1 p2
        go_wp2_with fail
        refine (right_any _ M1 _ HK7.out hM1 HS1.out).mono ?_
        rw [HQ1.out]
        rintro e w10 ⟨rfl, hb⟩
        replace HK7 := Lib.hid (HK7.out.on hb)
        replace HK9 := Lib.hid (HK9.out.on hb)
        replace HB := Lib.hid (below_then HB.out hb)
        clear hb
        go_wp2_with fail
        refine (right_any _ M2 _ HK9.out hM2 HS2.out).mono ?_
        rw [HP1.out]
        rintro e w11 ⟨rfl, hb⟩
        replace HK7 := Lib.hid (HK7.out.on hb)
        replace HK9 := Lib.hid (HK9.out.on hb)
        replace HB := Lib.hid (below_then HB.out hb)
        clear hb
        go_wp2_with fail
        refine (end_any _ M2 1 _ HK9.out hM2).mono ?_
        rw [HP3.out]
        rintro e w14 ⟨rfl, rfl⟩
        go_wp2_with fail
        refine (fixed_any _ (HT.out.on HB.out)).mono ?_
        rintro e w15 ⟨rfl, hb⟩
        go_wp2_with fail
        go_ret
        exact ⟨rfl, below_then HB.out hb⟩
end Go.Proofs.YtcmbcbdijmknnaaDoor
