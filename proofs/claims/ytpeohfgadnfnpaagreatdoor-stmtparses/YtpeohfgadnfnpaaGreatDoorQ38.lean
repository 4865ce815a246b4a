/-
  DERIVED. Layer 4: the calls whose answers the document fixes: the walk.
-/
import Derived.Test.YtpeohfgadnfnpaaGreatDoorQ37
namespace Go.Proofs.YtpeohfgadnfnpaaGreatDoor
open Go.RowKit

set_option maxRecDepth 100000 in
set_option maxHeartbeats 8000000 in
theorem fixed_any (w : World) (ht : Tabs w) : Calls Tryz.prog 14 #[] w (IsTrue w) := by
  have HT := Lib.hid ht
  have HB := Lib.hid (Below.refl w.heap.size w)
  clear ht
  go_enter Tryz.func14, Tryz.ntmps14
  go_wp2_with fail
  refine (ft1 _).mono ?_; rintro e u1 ⟨v1, rfl, ho, hb⟩
  replace HB := Lib.hid (below_then HB.out hb)
  have HTK := Lib.hid ho.read
  clear ho hb
  go_wp2_with fail
  refine (fp tk1 0 ⟨wantL, 13, 0, 0⟩ fx1 fits1 _ _ HTK.out (HT.out.on HB.out)).mono ?_; rintro e u2 ⟨r1, rfl, ho, hb⟩
  replace HB := Lib.hid (below_then HB.out hb)
  clear HTK
  obtain ⟨g1, cap1, rfl, hcap1, hcap2⟩ := ho.form (n := 2) rfl
  have HA := Lib.hid ho.read
  have hc1 : ¬ cap1 = 1 := by omega
  clear ho hb
  go_wp2_with fail
  refine (ft2 _).mono ?_; rintro e u3 ⟨v2, rfl, ho, hb⟩
  replace HA := Lib.hid (HA.out.on hb)
  replace HB := Lib.hid (below_then HB.out hb)
  have HTK := Lib.hid ho.read
  clear ho hb
  go_wp2_with fail
  refine (fp tk2 0 ⟨[], 0, 5, 2⟩ fx2 fits2 _ _ HTK.out (HT.out.on HB.out)).mono ?_; rintro e u4 ⟨r2, rfl, ho, hb⟩
  replace HA := Lib.hid (HA.out.on hb)
  replace HB := Lib.hid (below_then HB.out hb)
  clear HTK
  obtain ⟨A2, c2, rfl, _⟩ := ho.read
  clear ho hb
  go_wp2_with fail
  refine (ft3 _).mono ?_; rintro e u5 ⟨v3, rfl, ho, hb⟩
  replace HA := Lib.hid (HA.out.on hb)
  replace HB := Lib.hid (below_then HB.out hb)
  have HTK := Lib.hid ho.read
  clear ho hb
  go_wp2_with fail
  refine (fp tk3 0 ⟨[], 0, 11, 7⟩ fx3 fits3 _ _ HTK.out (HT.out.on HB.out)).mono ?_; rintro e u6 ⟨r3, rfl, ho, hb⟩
  replace HA := Lib.hid (HA.out.on hb)
  replace HB := Lib.hid (below_then HB.out hb)
  clear HTK
  obtain ⟨A3, c3, rfl, _⟩ := ho.read
  clear ho hb
  go_wp2_with fail
  refine (ft4 _).mono ?_; rintro e u7 ⟨v4, rfl, ho, hb⟩
  replace HA := Lib.hid (HA.out.on hb)
  replace HB := Lib.hid (below_then HB.out hb)
  have HTK := Lib.hid ho.read
  clear ho hb
  go_wp2_with fail
  refine (fp tk4 0 ⟨[], 0, 6, 14⟩ fx4 fits4 _ _ HTK.out (HT.out.on HB.out)).mono ?_; rintro e u8 ⟨r4, rfl, ho, hb⟩
  replace HA := Lib.hid (HA.out.on hb)
  replace HB := Lib.hid (below_then HB.out hb)
  clear HTK
  obtain ⟨A4, c4, rfl, _⟩ := ho.read
  clear ho hb
  go_wp2_with fail
  refine (ft5 _).mono ?_; rintro e u9 ⟨v5, rfl, ho, hb⟩
  replace HA := Lib.hid (HA.out.on hb)
  replace HB := Lib.hid (below_then HB.out hb)
  have HTK := Lib.hid ho.read
  clear ho hb
  go_wp2_with fail
  refine (fp tk5 0 ⟨wantM, 16, 0, 0⟩ fx5 fits5 _ _ HTK.out (HT.out.on HB.out)).mono ?_; rintro e u10 ⟨r5, rfl, ho, hb⟩
  replace HA := Lib.hid (HA.out.on hb)
  replace HB := Lib.hid (below_then HB.out hb)
  clear HTK
  obtain ⟨g5, cap5, rfl, hcap51, hcap52⟩ := ho.form (n := 1) rfl
  have HM := Lib.hid ho.read
  clear ho hb
  obtain ⟨_, _, _, _, _, _, q0⟩ := HA.out.at9 (i := 0) rfl
  obtain ⟨_, _, _, _, _, _, q1⟩ := HA.out.at9 (i := 1) rfl
  obtain ⟨_, _, _, _, _, _, q2⟩ := HA.out.at9 (i := 2) rfl
  obtain ⟨_, _, _, _, _, _, p0⟩ := HM.out.at9 (i := 0) rfl
  have a0 := q0.c0
  have a5 := q0.c5
  have a6 := q0.c6
  have b0 := q1.c0
  have b1 := q1.c1
  have b2 := q1.c2
  have d0 := q2.c0
  have m6 := p0.c6
  have m7 := p0.c7
  have hl1 := q0.lt
  have hl5 := p0.lt
  simp only [Nat.zero_mul, Nat.zero_add, Nat.one_mul] at a0 a5 a6 b0 b1 b2 d0 m6 m7
  clear q0 q1 q2 p0
  go_wp2_with fail
  refine (fs1 _ _ HM.out (HT.out.on HB.out)).mono ?_; rintro e u11 ⟨rfl, hb⟩
  replace HA := Lib.hid (HA.out.on hb)
  replace HM := Lib.hid (HM.out.on hb)
  replace HB := Lib.hid (below_then HB.out hb)
  clear hb
  go_wp2_with fail
  refine (fr1 _ _ HA.out (HT.out.on HB.out)).mono ?_; rintro e u12 ⟨rfl, hb⟩
  replace HA := Lib.hid (HA.out.on hb)
  replace HM := Lib.hid (HM.out.on hb)
  replace HB := Lib.hid (below_then HB.out hb)
  clear hb
  go_wp2_with fail
  refine (fr2 _ _ (read3 HA.out) (HT.out.on HB.out)).mono ?_; rintro e u13 ⟨rfl, hb⟩
  replace HA := Lib.hid (HA.out.on hb)
  replace HM := Lib.hid (HM.out.on hb)
  replace HB := Lib.hid (below_then HB.out hb)
  clear hb
  go_wp2_with fail
  refine (fd1 _ _ HA.out (HT.out.on HB.out)).mono ?_; rintro e u14 ⟨rfl, hb⟩
  replace HA := Lib.hid (HA.out.on hb)
  replace HM := Lib.hid (HM.out.on hb)
  replace HB := Lib.hid (below_then HB.out hb)
  clear hb
  go_wp2_with fail
  refine (fh1 _ (HT.out.on HB.out)).mono ?_; rintro e u15 ⟨rfl, hb⟩
  replace HA := Lib.hid (HA.out.on hb)
  replace HM := Lib.hid (HM.out.on hb)
  replace HB := Lib.hid (below_then HB.out hb)
  clear hb
  go_wp2_with fail
  refine (fm1 _ _ _ HA.out HA.out).mono ?_; rintro e u16 ⟨rfl, hb⟩
  replace HA := Lib.hid (HA.out.on hb)
  replace HM := Lib.hid (HM.out.on hb)
  replace HB := Lib.hid (below_then HB.out hb)
  clear hb
  go_wp2_with fail
  refine (fm2 _ _ _ HA.out HM.out).mono ?_; rintro e u17 ⟨rfl, hb⟩
  replace HA := Lib.hid (HA.out.on hb)
  replace HM := Lib.hid (HM.out.on hb)
  replace HB := Lib.hid (below_then HB.out hb)
  clear hb
  go_wp2_with fail
  go_ret
  exact ⟨rfl, HB.out⟩
end Go.Proofs.YtpeohfgadnfnpaaGreatDoor
