/-
  DERIVED. Layer 2: the walk of the law ScanNames: for every text it is true.
-/
import Derived.Test.YtgecocpcbfccgaaDoorBack
namespace Go.Proofs.YtgecocpcbfccgaaDoor
open Go.RowKit

theorem name_is (u : ByteArray) (w : World) (b : Bool) (hu : u.size ≤ 40) (h : nameB u.data.toList = b) : Calls Tryd.prog 13 #[.string u] w (TellsB b w) := by
  have := name_any u w (by omega)
  rwa [h] at this
theorem kept_is (u : ByteArray) (w : World) (b : Bool) (hu : u.size ≤ 40) (h : keptB u.data.toList = b) : Calls Tryd.prog 15 #[.string u] w (TellsB b w) := by
  have := kept_any u w (by omega)
  rwa [h] at this
theorem not_both {l : List UInt8} (h : nameB l = true) : keptB l = false := by
  have := name_not_kept l
  rw [h] at this; simpa using this

set_option maxRecDepth 100000 in
set_option maxHeartbeats 4000000 in
theorem names_any (s : ByteArray) (w : World) (hw : Signs w) : Calls Tryd.prog 9 #[.string s] w (IsTrue w) := by
  have HU := Lib.hid (cut_size s 40)
  have HW := Lib.hid hw
  clear hw
  go_enter Tryd.func9, Tryd.ntmps9
  go_wp2_with fail
  change Calls _ _ #[.string (s.extract 0 (min (s.size : Int) (40 : Nat)).toNat)] _ _
  generalize s.extract 0 (min (s.size : Int) (40 : Nat)).toNat = u at *
  generalize min (s.size : Int) 40 = mm
  refine (scan_any u _ (by have := HU.out; omega) HW.out).mono ?_
  have hone := names_pure u.data.toList
  generalize scanL u.data.toList 0 = f at *
  have hu := HU.out
  rintro e w1 ⟨v1, rfl, ho, hb⟩
  obtain ⟨A, c, hv, hc, hr⟩ := ho.read
  subst hv
  have HB := Lib.hid hb
  clear ho hb
  cases h1 : (f.err == 0) with
  | false =>
    have hz : oneB u.data.toList f = false := by unfold oneB; rw [h1]; rfl
    rw [hz, Bool.or_eq_false_iff] at hone
    have HN := Lib.hid hone.1
    have HK := Lib.hid hone.2
    clear hone hz
    go_wp2_with fail
    refine (name_is u _ false hu HN.out).mono ?_
    rintro e w2 ⟨rfl, hb⟩
    replace HB := Lib.hid (below_then HB.out hb)
    clear hb
    go_wp2_with fail
    refine (kept_is u _ false hu HK.out).mono ?_
    rintro e w1 ⟨rfl, hb⟩
    replace HB := Lib.hid (below_then HB.out hb)
    clear hb
    go_wp2_with fail
    refine (name_is u _ false hu HN.out).mono ?_
    rintro e w2 ⟨rfl, hb⟩
    replace HB := Lib.hid (below_then HB.out hb)
    clear hb
    go_wp2_with fail
    refine (fixed_any _ (HW.out.on HB.out)).mono ?_
    rintro e w1 ⟨rfl, hb⟩
    replace HB := Lib.hid (below_then HB.out hb)
    clear hb
    go_wp2_with fail
    go_ret
    exact ⟨rfl, HB.out⟩
  | true =>
    by_cases h2 : f.toks.length = 1
    · obtain ⟨t, ht⟩ := List.length_eq_one_iff.1 h2
      have h3 : oneB u.data.toList f = (t.kind == 1 && t.text == u.data.toList) := by unfold oneB; rw [h1, ht]; simp
      obtain ⟨g, rfl, hg, x0, x1, x2, x3⟩ := hr 0 t (by rw [ht]; rfl)
      rw [Nat.zero_mul] at x0
      rw [show 0 * 4 + 1 = 1 from rfl] at x1
      clear x2 x3 hr h2
      have HT := Lib.hid ht
      rw [show Value.slice (some ⟨g, 0, none⟩) f.toks.length c = Value.slice (some ⟨g, 0, none⟩) 1 c from by rw [ht]; rfl]
      clear ht
      cases h4 : (t.kind == 1) with
      | false =>
        have hz : oneB u.data.toList f = false := by rw [h3, h4]; rfl
        rw [hz, Bool.or_eq_false_iff] at hone
        have HN := Lib.hid hone.1
        have HK := Lib.hid hone.2
        clear hone hz h3 hc
        go_wp2_with fail
        refine (name_is u _ false hu HN.out).mono ?_
        rintro e w2 ⟨rfl, hb⟩
        replace HB := Lib.hid (below_then HB.out hb)
        clear hb
        go_wp2_with fail
        refine (kept_is u _ false hu HK.out).mono ?_
        rintro e w1 ⟨rfl, hb⟩
        replace HB := Lib.hid (below_then HB.out hb)
        clear hb
        go_wp2_with fail
        refine (name_is u _ false hu HN.out).mono ?_
        rintro e w2 ⟨rfl, hb⟩
        replace HB := Lib.hid (below_then HB.out hb)
        clear hb
        go_wp2_with fail
        refine (fixed_any _ (HW.out.on HB.out)).mono ?_
        rintro e w1 ⟨rfl, hb⟩
        replace HB := Lib.hid (below_then HB.out hb)
        clear hb
        go_wp2_with fail
        go_ret
        exact ⟨rfl, HB.out⟩
      | true =>
        cases h5 : (t.text == u.toList) with
        | false =>
          have hz : oneB u.data.toList f = false := by rw [h3, ← ByteArray.toList_eq, h5]; simp
          rw [hz, Bool.or_eq_false_iff] at hone
          have HN := Lib.hid hone.1
          have HK := Lib.hid hone.2
          clear hone hz h3 hc
          go_wp2_with fail
          refine (name_is u _ false hu HN.out).mono ?_
          rintro e w2 ⟨rfl, hb⟩
          replace HB := Lib.hid (below_then HB.out hb)
          clear hb
          go_wp2_with fail
          refine (kept_is u _ false hu HK.out).mono ?_
          rintro e w1 ⟨rfl, hb⟩
          replace HB := Lib.hid (below_then HB.out hb)
          clear hb
          go_wp2_with fail
          refine (name_is u _ false hu HN.out).mono ?_
          rintro e w2 ⟨rfl, hb⟩
          replace HB := Lib.hid (below_then HB.out hb)
          clear hb
          go_wp2_with fail
          refine (fixed_any _ (HW.out.on HB.out)).mono ?_
          rintro e w1 ⟨rfl, hb⟩
          replace HB := Lib.hid (below_then HB.out hb)
          clear hb
          go_wp2_with fail
          go_ret
          exact ⟨rfl, HB.out⟩
        | true =>
          rw [h3, ← ByteArray.toList_eq, h4, h5] at hone
          rw [ByteArray.toList_eq] at hone
          cases h6 : nameB u.data.toList with
          | true =>
            have HN := Lib.hid h6
            have HK := Lib.hid (not_both h6)
            clear hone h3 hc h6
            go_wp2_with fail
            refine (name_is u _ true hu HN.out).mono ?_
            rintro e w2 ⟨rfl, hb⟩
            replace HB := Lib.hid (below_then HB.out hb)
            clear hb
            go_wp2_with fail
            refine (name_is u _ true hu HN.out).mono ?_
            rintro e w1 ⟨rfl, hb⟩
            replace HB := Lib.hid (below_then HB.out hb)
            clear hb
            go_wp2_with fail
            refine (kept_is u _ false hu HK.out).mono ?_
            rintro e w2 ⟨rfl, hb⟩
            replace HB := Lib.hid (below_then HB.out hb)
            clear hb
            go_wp2_with fail
            refine (fixed_any _ (HW.out.on HB.out)).mono ?_
            rintro e w1 ⟨rfl, hb⟩
            replace HB := Lib.hid (below_then HB.out hb)
            clear hb
            go_wp2_with fail
            go_ret
            exact ⟨rfl, HB.out⟩
          | false =>
            rw [h6, Bool.false_or] at hone
            have HN := Lib.hid h6
            have HK : Hid (keptB u.data.toList = true) := Lib.hid (by simpa using hone)
            clear hone h3 hc h6
            go_wp2_with fail
            refine (name_is u _ false hu HN.out).mono ?_
            rintro e w2 ⟨rfl, hb⟩
            replace HB := Lib.hid (below_then HB.out hb)
            clear hb
            go_wp2_with fail
            refine (kept_is u _ true hu HK.out).mono ?_
            rintro e w1 ⟨rfl, hb⟩
            replace HB := Lib.hid (below_then HB.out hb)
            clear hb
            go_wp2_with fail
            refine (name_is u _ false hu HN.out).mono ?_
            rintro e w2 ⟨rfl, hb⟩
            replace HB := Lib.hid (below_then HB.out hb)
            clear hb
            go_wp2_with fail
            refine (fixed_any _ (HW.out.on HB.out)).mono ?_
            rintro e w1 ⟨rfl, hb⟩
            replace HB := Lib.hid (below_then HB.out hb)
            clear hb
            go_wp2_with fail
            go_ret
            exact ⟨rfl, HB.out⟩
    · have h3 : ((f.toks.length : Int) == 1) = false := beq_eq_false_iff_ne.2 (by omega)
      have hz : oneB u.data.toList f = false := by unfold oneB; simp [h2]
      rw [hz, Bool.or_eq_false_iff] at hone
      have HN := Lib.hid hone.1
      have HK := Lib.hid hone.2
      clear hone hz hr h2
      go_wp2_with fail
      refine (name_is u _ false hu HN.out).mono ?_
      rintro e w2 ⟨rfl, hb⟩
      replace HB := Lib.hid (below_then HB.out hb)
      clear hb
      go_wp2_with fail
      refine (kept_is u _ false hu HK.out).mono ?_
      rintro e w1 ⟨rfl, hb⟩
      replace HB := Lib.hid (below_then HB.out hb)
      clear hb
      go_wp2_with fail
      refine (name_is u _ false hu HN.out).mono ?_
      rintro e w2 ⟨rfl, hb⟩
      replace HB := Lib.hid (below_then HB.out hb)
      clear hb
      go_wp2_with fail
      refine (fixed_any _ (HW.out.on HB.out)).mono ?_
      rintro e w1 ⟨rfl, hb⟩
      replace HB := Lib.hid (below_then HB.out hb)
      clear hb
      go_wp2_with fail
      go_ret
      exact ⟨rfl, HB.out⟩
end Go.Proofs.YtgecocpcbfccgaaDoor
