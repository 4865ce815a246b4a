/-
  DERIVED. Layer 2: the walk of the law ScanBack: for every text it is true.
-/
import Derived.Test.YtgecocpcbfccgaaDoorPureShow
import Derived.Test.YtgecocpcbfccgaaDoorFixed
namespace Go.Proofs.YtgecocpcbfccgaaDoor
open Go.RowKit

theorem scan_errpl (l : List UInt8) (a : Nat) : (scanL l a).err ≠ 0 → a ≤ (scanL l a).pl ∧ (scanL l a).pl < a + l.length := by
  revert l a
  refine scan_ind (fun a => ?_) (fun c r a h ih => ?_) (fun c r a h h2 ih => ?_) (fun c r a h h2 h3 ih => ?_) (fun c r a h h2 h3 => ?_)
  · intro h; exact absurd rfl h
  · rw [scanL_blank r a h]; intro he; have := ih he; simp only [List.length_cons]; omega
  · rw [scanL_rem r a h h2]
    have h4 : ((c :: r).takeWhile linB).length ≤ (c :: r).length := (List.takeWhile_sublist _).length_le
    intro he; have := ih he; rw [List.length_drop] at this; omega
  · rw [scanL_tok r a h h2 h3]
    have e1 := (cut_ok h3).1.length_le
    rw [List.length_drop] at ih
    generalize scanL ((c :: r).drop (cutOf (c :: r)).text.length) (a + (cutOf (c :: r)).text.length) = f at *
    unfold Found.pre
    by_cases he : f.err = 0
    · rw [if_pos he]; intro h; exact absurd rfl h
    · rw [if_neg he]; intro _; have := ih he; simp only; omega
  · rw [scanL_bad r a h h2 h3]; intro _; simp only [Found.fail, List.length_cons]; omega
/-- A text that has been cut. -/
theorem cut_size (s : ByteArray) (n : Nat) : (s.extract 0 (min (s.size : Int) n).toNat).size ≤ n := by
  rw [ByteArray.size_extract]; omega
theorem own_slice {w : World} {B : Nat} {v : Value} {L : List Tok} (h : OwnT w B v L) : ∃ A c, v = .slice A L.length c := by
  obtain ⟨A, c, hv, _⟩ := h.read
  exact ⟨A, c, hv⟩

set_option maxRecDepth 100000 in
set_option maxHeartbeats 4000000 in
theorem back_any (s : ByteArray) (w : World) (hw : Signs w) : Calls Tryd.prog 5 #[.string s] w (IsTrue w) := by
  have HU := Lib.hid (cut_size s 1500)
  have HW := Lib.hid hw
  clear hw
  go_enter Tryd.func5, Tryd.ntmps5
  go_wp2_with fail
  change Calls _ _ #[.string (s.extract 0 (min (s.size : Int) (1500 : Nat)).toNat)] _ _
  generalize s.extract 0 (min (s.size : Int) (1500 : Nat)).toNat = u at *
  generalize min (s.size : Int) 1500 = mm
  refine (scan_any u _ (by have := HU.out; omega) HW.out).mono ?_
  have hform := scanL_form u.data.toList 0
  have hgood := scan_good u.data.toList 0
  have hlen := scan_len u.data.toList 0
  have hpl := scan_errpl u.data.toList 0
  rw [len_data] at hlen hpl
  generalize scanL u.data.toList 0 = f at *
  have hu := HU.out
  rintro e w1 ⟨v1, rfl, ho, hb⟩
  obtain ⟨A, c, rfl⟩ := own_slice ho
  by_cases he : f.err = 0
  · have he2 : (f.err != 0) = false := by simpa using he
    have hsl := show_len f.toks
    obtain ⟨hs1, hs2⟩ := scan_show f.toks 0 hgood
    have hT := same_show hs2
    have hn2 := (same_len (p := false) (L := f.toks) (M := (scanL (showL f.toks) 0).toks))
    have HO := Lib.hid ho.read
    have HB := Lib.hid hb
    have HE := Lib.hid he
    clear ho hb hform hgood hpl he
    generalize hg : f.toks = L at *
    have hL : L.length ≤ 1500 := by omega
    have hS : (showL L).length ≤ 3000 := by omega
    clear hg hlen hsl
    generalize hd : scanL (showL L) 0 = g at *
    have HD := Lib.hid hd
    have HG := Lib.hid hs1
    have HQ := Lib.hid hs2
    have HT := Lib.hid hT
    have hg2 : (g.err == 0) = true := by simpa using hs1
    have hM : g.toks.length ≤ 1500 := by
      by_cases hh : L.length = g.toks.length
      · omega
      · have := hn2 hh; rw [hs2] at this; cases this
    clear hd hs1 hs2 hT hn2
    generalize hsh : showL L = t at *
    have HS := Lib.hid hsh
    clear hsh
    go_wp2_with fail
    refine (show_any _ L _ HO.out (by omega) (by rw [HS.out]; omega)).mono ?_
    rw [HS.out]
    rintro e w2 ⟨rfl, hb⟩
    replace HO := Lib.hid (HO.out.on hb)
    replace HB := Lib.hid (below_then HB.out hb)
    clear hb w1
    go_wp2_with fail
    refine (scan_any ⟨t.toArray⟩ _ (by show t.toArray.size ≤ 4000; simp; omega) (HW.out.on HB.out)).mono ?_
    rw [show (ByteArray.mk t.toArray).data.toList = t from by simp, HD.out]
    rintro e w1 ⟨v2, rfl, ho, hb⟩
    replace HO := Lib.hid (HO.out.on hb)
    replace HB := Lib.hid (below_then HB.out hb)
    have HV := Lib.hid ho.read
    clear ho hb w2
    go_wp2_with fail
    refine (same_any false _ _ L g.toks _ HO.out HV.out (by omega)).mono ?_
    rw [HQ.out]
    rintro e w2 ⟨rfl, hb⟩
    replace HV := Lib.hid (HV.out.on hb)
    replace HB := Lib.hid (below_then HB.out hb)
    clear hb HO w1
    go_wp2_with fail
    refine (show_any _ g.toks _ HV.out (by omega) (by rw [HT.out]; omega)).mono ?_
    rw [HT.out]
    rintro e w1 ⟨rfl, hb⟩
    replace HB := Lib.hid (below_then HB.out hb)
    clear hb HV w2
    go_wp2_with fail
    refine (fixed_any _ (HW.out.on HB.out)).mono ?_
    rintro e w2 ⟨rfl, hb⟩
    replace HB := Lib.hid (below_then HB.out hb)
    clear hb w1
    go_wp2_with fail
    go_ret
    exact ⟨rfl, HB.out⟩
  · have he2 : (f.err != 0) = true := by simpa using he
    have ht := hform.2 he
    have hp := (hpl he).2
    have hlt : (f.pl : Int) < (u.size : Int) := by omega
    have HB := Lib.hid hb
    clear ho hb hform hgood hpl he hlen hp
    rw [ht]
    go_wp2_with fail
    refine (fixed_any _ (HW.out.on HB.out)).mono ?_
    rintro e w2 ⟨rfl, hb⟩
    replace HB := Lib.hid (below_then HB.out hb)
    clear hb w1
    go_wp2_with fail
    go_ret
    exact ⟨rfl, HB.out⟩
end Go.Proofs.YtgecocpcbfccgaaDoor
