/-
  DERIVED. Layer 2: the walk of the law ScanTexts: for every two texts it is true.
-/
import Derived.Test.YtgecocpcbfccgaaDoorRefScan
import Derived.Test.YtgecocpcbfccgaaDoorRefKept
import Derived.Test.YtgecocpcbfccgaaDoorFixed
namespace Go.Proofs.YtgecocpcbfccgaaDoor
open Go.RowKit

theorem same_self : ∀ (p : Bool) (L : List Tok), sameB p L L = true
  | _, [] => rfl
  | p, t :: L => by unfold sameB; rw [same_self p L]; simp [tokEq]
theorem cut_text (s : ByteArray) (n : Nat) : (s.extract 0 (min (s.size : Int) n).toNat).size ≤ n := by
  rw [ByteArray.size_extract]; omega

set_option maxHeartbeats 1000000 in
theorem scan_big (s : ByteArray) (w : World) (hs : 4000 < s.size) : Calls Tryd.prog 10 #[.string s] w (GivesF ⟨[], 2, 4000⟩ w) := by
  have hs1 : decide ((4000 : Int) < (s.size : Int)) = true := by simp; omega
  go_enter Tryd.func10, Tryd.ntmps10
  go_wp2_with fail
  go_step3
  go_wp2_with fail
  rw [Exit.noGoto_ret]
  go_ret3
  exact givesF_of (f' := ⟨[], 2, 4000⟩) rfl rfl (own_nil _ _) (Below.refl _ _)
set_option maxHeartbeats 1000000 in
theorem rscan_big (s : ByteArray) (w : World) (hs : 4000 < s.size) : Calls Tryd.prog 11 #[.string s] w (GivesF ⟨[], 2, 4000⟩ w) := by
  have hs1 : decide ((4000 : Int) < (s.size : Int)) = true := by simp; omega
  go_enter Tryd.func11, Tryd.ntmps11
  go_wp2_with fail
  go_ret3
  exact givesF_of (f' := ⟨[], 2, 4000⟩) rfl rfl (own_nil _ _) (Below.refl _ _)
theorem scanV_any (s : ByteArray) (w : World) (hw : Signs w) : Calls Tryd.prog 10 #[.string s] w (GivesF (scanV s.data.toList) w) := by
  unfold scanV
  rw [len_data]
  by_cases h : 4000 < s.size
  · rw [if_pos h]; exact scan_big s w h
  · rw [if_neg h]; exact scan_any s w (by omega) hw
theorem rscanV_any (s : ByteArray) (w : World) : Calls Tryd.prog 11 #[.string s] w (GivesF (scanV s.data.toList) w) := by
  unfold scanV
  rw [len_data]
  by_cases h : 4000 < s.size
  · rw [if_pos h]; exact rscan_big s w h
  · rw [if_neg h]; exact rscan_any s w (by omega)
theorem scan_count (l : List UInt8) (a : Nat) : (scanL l a).toks.length ≤ l.length := by
  revert l a
  refine scan_ind (fun a => ?_) (fun c r a h ih => ?_) (fun c r a h h2 ih => ?_) (fun c r a h h2 h3 ih => ?_) (fun c r a h h2 h3 => ?_)
  · rw [scanL_nil]; exact Nat.le_refl _
  · rw [scanL_blank r a h]; simp only [List.length_cons]; omega
  · rw [scanL_rem r a h h2]; rw [List.length_drop] at ih; omega
  · rw [scanL_tok r a h h2 h3]
    have e := cut_ok h3
    have e1 := e.1.length_le
    rw [List.length_drop] at ih
    unfold Found.pre
    by_cases he : (scanL ((c :: r).drop (cutOf (c :: r)).text.length) (a + (cutOf (c :: r)).text.length)).err = 0
    · rw [if_pos he]
      have h4 := e.2
      simp only [List.cons_append, List.nil_append, List.length_cons] at *
      omega
    · rw [if_neg he]; exact Nat.zero_le _
  · rw [scanL_bad r a h h2 h3]; exact Nat.zero_le _
theorem scanV_count (l : List UInt8) : (scanV l).toks.length ≤ 4000 := by
  unfold scanV
  by_cases h : 4000 < l.length
  · rw [if_pos h]; exact Nat.zero_le _
  · rw [if_neg h]; have := scan_count l 0; unfold scanL at *; omega

set_option maxRecDepth 100000 in
set_option maxHeartbeats 4000000 in
theorem texts_any (s t : ByteArray) (w : World) (hw : Signs w) : Calls Tryd.prog 3 #[.string s, .string t] w (IsTrue w) := by
  have HU2 := Lib.hid (cut_text t 40)
  have HW := Lib.hid hw
  clear hw
  go_enter Tryd.func3, Tryd.ntmps3
  go_wp2_with fail
  generalize s.extract 0 (min (s.size : Int) 4010).toNat = u at *
  generalize min (s.size : Int) 4010 = mm
  refine (scanV_any u _ HW.out).mono ?_
  have HF := Lib.hid (show ∃ f, scanV u.data.toList = f from ⟨_, rfl⟩)
  have hct := scanV_count u.data.toList
  obtain ⟨f, hf⟩ := HF.out
  have HFF := Lib.hid hf
  rw [hf] at hct ⊢
  clear hf HF
  rintro e w1 ⟨v1, rfl, ho, hb⟩
  have HO := Lib.hid ho.read
  have HB := Lib.hid hb
  clear ho hb
  go_wp2_with fail
  refine (rscanV_any u _).mono ?_
  rw [HFF.out]
  rintro e w2 ⟨v2, rfl, ho, hb⟩
  replace HO := Lib.hid (HO.out.on hb)
  have HV := Lib.hid ho.read
  replace HB := Lib.hid (below_then HB.out hb)
  clear ho hb
  go_wp2_with fail
  refine (same_any true _ _ f.toks f.toks _ HO.out HV.out (by omega)).mono ?_
  rw [same_self]
  rintro e w3 ⟨rfl, hb⟩
  replace HB := Lib.hid (below_then HB.out hb)
  clear hb HO HV
  go_wp2_with fail
  change Calls _ _ #[.string (t.extract 0 (min (t.size : Int) (40 : Nat)).toNat)] _ _
  generalize t.extract 0 (min (t.size : Int) (40 : Nat)).toNat = x at *
  generalize min (t.size : Int) 40 = mx
  have hx := HU2.out
  refine (name_any x _ (by omega)).mono ?_
  generalize hnb : nameB x.data.toList = nb
  have HNB := Lib.hid hnb
  clear hnb
  rintro e w4 ⟨rfl, hb⟩
  replace HB := Lib.hid (below_then HB.out hb)
  clear hb
  go_wp2_with fail
  refine (rname_any x _ (by omega)).mono ?_
  rw [HNB.out]
  rintro e w5 ⟨rfl, hb⟩
  replace HB := Lib.hid (below_then HB.out hb)
  clear hb
  have hbb : (nb == nb) = true := by cases nb <;> rfl
  go_wp2_with fail
  refine (kept_any x _ (by omega)).mono ?_
  generalize hkb : keptB x.data.toList = kb
  have HKB := Lib.hid hkb
  clear hkb
  rintro e w6 ⟨rfl, hb⟩
  replace HB := Lib.hid (below_then HB.out hb)
  clear hb
  go_wp2_with fail
  refine (rkept_any x _).mono ?_
  rw [HKB.out]
  rintro e w7 ⟨rfl, hb⟩
  replace HB := Lib.hid (below_then HB.out hb)
  clear hb
  have hbk : (kb == kb) = true := by cases kb <;> rfl
  go_wp2_with fail
  refine (fixed_any _ (HW.out.on HB.out)).mono ?_
  rintro e w8 ⟨rfl, hb⟩
  replace HB := Lib.hid (below_then HB.out hb)
  clear hb
  go_wp2_with fail
  go_ret
  exact ⟨rfl, HB.out⟩
end Go.Proofs.YtgecocpcbfccgaaDoor
