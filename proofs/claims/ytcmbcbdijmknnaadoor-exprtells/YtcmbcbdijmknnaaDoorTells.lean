/-
  DERIVED. Layer 3: the walk of the law ExprTells: for all nodes and every number it is true.
-/
import Derived.Test.YtcmbcbdijmknnaaDoorRefShB
import Derived.Test.YtcmbcbdijmknnaaDoorRefNames
import Derived.Test.YtcmbcbdijmknnaaDoorCut
namespace Go.Proofs.YtcmbcbdijmknnaaDoor
open Go.RowKit

theorem sameS_self : ∀ l : List (List UInt8), sameS l l = true
  | [] => rfl
  | a :: l => by
    have ih := sameS_self l
    unfold sameS at *
    unfold sameG
    simp [ih]

set_option maxRecDepth 100000 in
set_option maxHeartbeats 8000000 in
theorem tells_any (A : Option Addr) (n c : Nat) (R : Nat → RawN) (A' : Option Addr) (n' c' : Nat) (R' : Nat → RawN) (i : Int) (w : World) (hA : ArgN w A n R) (hA' : ArgN w A' n' R') (ht : Tabs w) :
    Calls Tryd.prog 5 #[.slice A n c, .slice A' n' c', .int .i64 i] w (IsTrue w) := by
  have HA := Lib.hid hA
  have HA' := Lib.hid hA'
  have HT := Lib.hid ht
  have hll := rawN_len R (min n 60)
  have HSM := Lib.hid (rawN_small R (min n 60))
  have hll' := rawN_len R' (min n' 60)
  clear hA hA' ht
  go_enter Tryd.func5, Tryd.ntmps5
  go_wp2_with fail
  refine (cut_any A n c R _ HA.out).mono ?_
  generalize rawN R (min n 60) = L at *
  have hl60 : L.length ≤ 60 := by omega
  clear hll
  rintro e w1 ⟨v, rfl, ho, hb⟩
  have HO := Lib.hid ho.read
  have HB := Lib.hid hb
  obtain ⟨A1, c1, rfl, hc1, _⟩ := ho.read
  clear ho hb
  go_wp2_with fail
  refine (cut_any A' n' c' R' _ (HA'.out.on HB.out)).mono ?_
  generalize rawN R' (min n' 60) = M at *
  have hm60 : M.length ≤ 60 := by omega
  clear hll'
  rintro e w2 ⟨v, rfl, ho, hb⟩
  have HO' := Lib.hid ho.read
  replace HO := Lib.hid (HO.out.on hb)
  replace HB := Lib.hid (below_then HB.out hb)
  obtain ⟨A2, c2, rfl, hc2, _⟩ := ho.read
  clear ho hb
  have hL : L.length ≤ 10000 := by omega
  generalize hrb : rightL L = rb
  have HRB := Lib.hid hrb
  generalize hsh : shownL L = sh
  have HSH := Lib.hid hsh
  generalize hdp : (depthL L : Int) = dp
  have HDP := Lib.hid hdp
  generalize hen : endV L i = en
  have HEN := Lib.hid hen
  generalize hsn : sameN false L M = sn
  have HSN := Lib.hid hsn
  have HSS := Lib.hid (sameS_self (namesL L))
  generalize hnm : namesL L = nm
  have HNM := Lib.hid hnm
  have hnl : nm.length ≤ 10000 := by
    rw [← hnm]; unfold namesL
    split
    · have := names_len L; omega
    · simp
  rw [hnm] at HSS
  clear hrb hsh hdp hen hsn hnm
  go_wp2_with fail
  refine (right_any _ L _ HO.out hL HSM.out).mono ?_
  rw [HRB.out]
  rintro e w3 ⟨rfl, hb⟩
  replace HO := Lib.hid (HO.out.on hb)
  replace HO' := Lib.hid (HO'.out.on hb)
  replace HB := Lib.hid (below_then HB.out hb)
  clear hb
  go_wp2_with fail
  refine (rright_any _ L _ HO.out hL HSM.out).mono ?_
  rw [HRB.out]
  rintro e w4 ⟨rfl, hb⟩
  replace HO := Lib.hid (HO.out.on hb)
  replace HO' := Lib.hid (HO'.out.on hb)
  replace HB := Lib.hid (below_then HB.out hb)
  clear hb
  go_wp2_with fail
  refine (show_any _ L _ HO.out hL HSM.out (HT.out.on HB.out)).mono ?_
  rw [HSH.out]
  rintro e w5 ⟨rfl, hb⟩
  replace HO := Lib.hid (HO.out.on hb)
  replace HO' := Lib.hid (HO'.out.on hb)
  replace HB := Lib.hid (below_then HB.out hb)
  clear hb
  go_wp2_with fail
  refine (rShow_any _ L _ HO.out hL HSM.out).mono ?_
  rw [HSH.out]
  rintro e w6 ⟨rfl, hb⟩
  replace HO := Lib.hid (HO.out.on hb)
  replace HO' := Lib.hid (HO'.out.on hb)
  replace HB := Lib.hid (below_then HB.out hb)
  clear hb
  go_wp2_with fail
  refine (depth_any _ L _ HO.out hL HSM.out).mono ?_
  rw [HDP.out]
  rintro e w7 ⟨rfl, hb⟩
  replace HO := Lib.hid (HO.out.on hb)
  replace HO' := Lib.hid (HO'.out.on hb)
  replace HB := Lib.hid (below_then HB.out hb)
  clear hb
  go_wp2_with fail
  refine (rDepth_any _ L _ HO.out hL HSM.out).mono ?_
  rw [HDP.out]
  rintro e w8 ⟨rfl, hb⟩
  replace HO := Lib.hid (HO.out.on hb)
  replace HO' := Lib.hid (HO'.out.on hb)
  replace HB := Lib.hid (below_then HB.out hb)
  clear hb
  go_wp2_with fail
  refine (names_any _ L _ HO.out hL HSM.out).mono ?_
  rw [HNM.out]
  rintro e w9 ⟨v, rfl, ho, hb⟩
  have HN1 := Lib.hid ho.read
  obtain ⟨A9, c9, rfl, _⟩ := ho.read
  replace HO := Lib.hid (HO.out.on hb)
  replace HO' := Lib.hid (HO'.out.on hb)
  replace HB := Lib.hid (below_then HB.out hb)
  clear ho hb
  go_wp2_with fail
  refine (rnames_any _ L _ HO.out hL HSM.out).mono ?_
  rw [HNM.out]
  rintro e w10 ⟨v, rfl, ho, hb⟩
  have HN2 := Lib.hid ho.read
  obtain ⟨A10, c10, rfl, _⟩ := ho.read
  replace HO := Lib.hid (HO.out.on hb)
  replace HO' := Lib.hid (HO'.out.on hb)
  replace HN1 := Lib.hid (HN1.out.on hb)
  replace HB := Lib.hid (below_then HB.out hb)
  clear ho hb
  go_wp2_with fail
  refine (texts_any _ _ nm nm _ HN1.out HN2.out hnl).mono ?_
  rw [HSS.out]
  rintro e w11 ⟨rfl, hb⟩
  replace HO := Lib.hid (HO.out.on hb)
  replace HO' := Lib.hid (HO'.out.on hb)
  replace HB := Lib.hid (below_then HB.out hb)
  clear hb
  go_wp2_with fail
  refine (end_any _ L i _ HO.out hL).mono ?_
  rw [HEN.out]
  rintro e _ ⟨rfl, rfl⟩
  go_wp2_with fail
  refine (rend_any _ L i _ HO.out hL).mono ?_
  rw [HEN.out]
  rintro e _ ⟨rfl, rfl⟩
  go_wp2_with fail
  refine (same_any _ _ L M _ HO.out HO'.out hL).mono ?_
  rw [HSN.out]
  rintro e w12 ⟨rfl, hb⟩
  replace HO := Lib.hid (HO.out.on hb)
  replace HO' := Lib.hid (HO'.out.on hb)
  replace HB := Lib.hid (below_then HB.out hb)
  clear hb
  go_wp2_with fail
  refine (rsame_any false _ _ L M _ HO.out HO'.out hL).mono ?_
  rw [HSN.out]
  rintro e w13 ⟨rfl, hb⟩
  replace HO := Lib.hid (HO.out.on hb)
  replace HO' := Lib.hid (HO'.out.on hb)
  replace HB := Lib.hid (below_then HB.out hb)
  clear hb
  go_wp2_with fail
  refine (fixed_any _ (HT.out.on HB.out)).mono ?_
  rintro e w14 ⟨rfl, hb⟩
  go_wp2_with fail
  go_ret
  exact ⟨rfl, below_then HB.out hb⟩
end Go.Proofs.YtcmbcbdijmknnaaDoor
