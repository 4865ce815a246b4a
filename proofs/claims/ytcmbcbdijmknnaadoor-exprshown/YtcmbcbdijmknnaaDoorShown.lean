/-
  DERIVED. Layer 3: the walk of the law ExprShown: for all nodes it is true.
-/
import Derived.Test.YtcmbcbdijmknnaaDoorBack
namespace Go.Proofs.YtcmbcbdijmknnaaDoor
open Go.RowKit

set_option maxRecDepth 100000 in
set_option maxHeartbeats 8000000 in
theorem shown_any (A : Option Addr) (n c : Nat) (R : Nat → RawN) (w : World) (hA : ArgN w A n R) (ht : Tabs w) : Calls Tryd.prog 7 #[.slice A n c] w (IsTrue w) := by
  have HA := Lib.hid hA
  have HT := Lib.hid ht
  have hll := rawN_len R (min n 60)
  have HSM := Lib.hid (rawN_small R (min n 60))
  clear hA ht
  go_enter Tryd.func7, Tryd.ntmps7
  go_wp2_with fail
  refine (cut_any A n c R _ HA.out).mono ?_
  generalize rawN R (min n 60) = L at *
  have hl60 : L.length ≤ 60 := by omega
  clear hll
  rintro e w1 ⟨v, rfl, ho, hb⟩
  have HO := Lib.hid ho.read
  have HB := Lib.hid hb
  obtain ⟨A1, c1, rfl, _⟩ := ho.read
  clear ho hb
  go_wp2_with fail
  refine (right_any _ L _ HO.out (by omega) HSM.out).mono ?_
  cases hr : rightL L with
  | false =>
    have HSH : Hid (shownL L = []) := Lib.hid (shown_no hr)
    have HD := Lib.hid (depth_no hr)
    have HN : Hid (namesL L = []) := Lib.hid (by unfold namesL; rw [hr]; rfl)
    rintro e w2 ⟨rfl, hb⟩
    replace HO := Lib.hid (HO.out.on hb)
    replace HB := Lib.hid (below_then HB.out hb)
    clear hb hr
    go_wp2_with fail
    refine (show_any _ L _ HO.out (by omega) HSM.out (HT.out.on HB.out)).mono ?_
    rw [HSH.out]
    rintro e w3 ⟨rfl, hb⟩
    replace HO := Lib.hid (HO.out.on hb)
    replace HB := Lib.hid (below_then HB.out hb)
    clear hb
    go_wp2_with fail
    refine (depth_any _ L _ HO.out (by omega) HSM.out).mono ?_
    rw [HD.out]
    rintro e w4 ⟨rfl, hb⟩
    replace HO := Lib.hid (HO.out.on hb)
    replace HB := Lib.hid (below_then HB.out hb)
    clear hb
    go_wp2_with fail
    refine (names_any _ L _ HO.out (by omega) HSM.out).mono ?_
    rw [HN.out]
    rintro e w5 ⟨v5, rfl, ho, hb⟩
    obtain ⟨A5, c5, rfl, _⟩ := ho.read
    replace HB := Lib.hid (below_then HB.out hb)
    clear hb ho
    go_wp2_with fail
    refine (fixed_any _ (HT.out.on HB.out)).mono ?_
    rintro e w6 ⟨rfl, hb⟩
    go_wp2_with fail
    go_ret
    exact ⟨rfl, below_then HB.out hb⟩
  | true =>
    obtain ⟨x, rfl, hg, hd, hs, hsh, hdp⟩ := good_right hr
    obtain ⟨hsn, hn40⟩ := small_good hg hs
    have hsl := shown_len hg hs
    obtain ⟨M, k, hk, hk1, hst, hex, hsnM, hm40, hdM, _, hsa⟩ := shown_facts hg hd hs
    have HSH := Lib.hid hsh
    have HEX := Lib.hid hex
    have HST := Lib.hid hst
    have HSA := Lib.hid hsa
    have HK := Lib.hid hk
    have HD : Hid (depthL M = depthL x.flat) := Lib.hid (by rw [hdM, hdp])
    have HSN := Lib.hid hsnM
    rintro e w2 ⟨rfl, hb⟩
    replace HO := Lib.hid (HO.out.on hb)
    replace HB := Lib.hid (below_then HB.out hb)
    clear hb hr hsh hex hst hsa hk hdM hdp hsnM hsn hg
    generalize x.flat = L at *
    generalize showX false x = sh at *
    go_wp2_with fail
    refine (show_any _ L _ HO.out (by omega) HSM.out (HT.out.on HB.out)).mono ?_
    rw [HSH.out]
    rintro e w4 ⟨rfl, hb⟩
    replace HO := Lib.hid (HO.out.on hb)
    replace HB := Lib.hid (below_then HB.out hb)
    clear hb
    go_wp2_with fail
    refine (tokens_any ⟨sh.toArray⟩ _ (by simp [ByteArray.size]; omega)).mono ?_
    rw [show (⟨sh.toArray⟩ : ByteArray).data.toList = sh from rfl]
    generalize (scanL sh 0).toks = T2 at *
    obtain rfl : T2.length = k := HK.out
    rintro e w5 ⟨v5, rfl, ho, hb⟩
    obtain ⟨A5, c5, rfl, _⟩ := ho.read
    have HO5 := Lib.hid ho.read
    replace HO := Lib.hid (HO.out.on hb)
    replace HB := Lib.hid (below_then HB.out hb)
    clear ho hb
    go_wp2_with fail
    refine (parse_any _ T2 0 _ HO5.out (HT.out.on HB.out) hk1 HST.out).mono ?_
    rw [HEX.out]
    rintro e w6 ⟨v6, rfl, ho, hb⟩
    obtain ⟨A6, c6, rfl, _⟩ := ho.read
    have HO6 := Lib.hid ho.read
    replace HO := Lib.hid (HO.out.on hb)
    replace HB := Lib.hid (below_then HB.out hb)
    clear ho hb
    go_wp2_with fail
    refine (same_any _ _ M L _ HO6.out HO.out (by omega)).mono ?_
    rw [HSA.out]
    rintro e w7 ⟨rfl, hb⟩
    replace HO6 := Lib.hid (HO6.out.on hb)
    replace HO := Lib.hid (HO.out.on hb)
    replace HB := Lib.hid (below_then HB.out hb)
    clear hb
    go_wp2_with fail
    refine (depth_any _ M _ HO6.out (by omega) HSN.out).mono ?_
    rw [HD.out]
    generalize hdd : (depthL L : Int) = d at *
    have HDD := Lib.hid hdd
    rintro e w8 ⟨rfl, hb⟩
    replace HO := Lib.hid (HO.out.on hb)
    replace HB := Lib.hid (below_then HB.out hb)
    clear hb hdd
    go_wp2_with fail
    refine (depth_any _ L _ HO.out (by omega) HSM.out).mono ?_
    rw [HDD.out]
    rintro e w9 ⟨rfl, hb⟩
    replace HB := Lib.hid (below_then HB.out hb)
    clear hb
    go_wp2_with fail
    refine (fixed_any _ (HT.out.on HB.out)).mono ?_
    rintro e w10 ⟨rfl, hb⟩
    go_wp2_with fail
    go_ret
    exact ⟨rfl, below_then HB.out hb⟩
end Go.Proofs.YtcmbcbdijmknnaaDoor
