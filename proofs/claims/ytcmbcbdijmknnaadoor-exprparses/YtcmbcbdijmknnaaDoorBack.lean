/-
  DERIVED. Layer 3: the walks of the laws ExprBack and ExprShown: for every text and for all nodes they are true.
-/
import Derived.Test.YtcmbcbdijmknnaaDoorBackQ
import Derived.Test.YtcmbcbdijmknnaaDoorParts
namespace Go.Proofs.YtcmbcbdijmknnaaDoor
open Go.RowKit

theorem cut_sizeB (s : ByteArray) (n : Nat) : (s.extract 0 (min (s.size : Int) n).toNat).size ≤ n := by
  rw [ByteArray.size_extract]; omega
theorem small_flat {x : Ex} (h : x.flat.all nodOK = true) : SmallN x.flat := fun a ha => by
  have := small_all h a ha
  omega
theorem small_good {x : Ex} (h : GoodX x) (hs : x.size ≤ 40) : SmallN x.flat ∧ x.flat.length ≤ 40 := ⟨small_flat h.2, by rw [flat_len]; exact hs⟩
/-- What is found in the tokens of a text that is shown. -/
theorem shown_facts {x : Ex} (h : GoodX x) (hd : x.deep ≤ 12) (hs : x.size ≤ 40) : ∃ (N : List Nod) (k : Nat), (scanL (showX false x) 0).toks.length = k ∧ k ≤ 10000 ∧ SmallT (scanL (showX false x) 0).toks ∧ exprV (scanL (showX false x) 0).toks 0 = ⟨N, k, 0, 0⟩ ∧
    SmallN N ∧ N.length ≤ 40 ∧ depthL N = x.deep ∧ sameN false x.flat N = true ∧ sameN false N x.flat = true := by
  obtain ⟨x', h1, h2, h3, h4, h5, h6⟩ := shown_back h hd hs
  have hl := shown_len h hs
  have hsf := scan_facts (showX false x)
  have hg : x'.flat.all nodOK = true := by
    have hf := parseR_fine (scanL (showX false x) 0).toks 0
    have he := exprV_nat (scanL (showX false x) 0).toks 0
    rw [show exprV (scanL (showX false x) 0).toks ((0 : Nat) : Int) = exprV (scanL (showX false x) 0).toks 0 from rfl, h4] at he
    cases hp : parseR (scanL (showX false x) 0).toks 0 with
    | bad e j =>
      rw [hp] at he hf
      have h7 : (0 : Int) = e := congrArg Parsed.err he
      obtain ⟨h8, _⟩ := hf
      omega
    | ok y to =>
      rw [hp] at he hf
      obtain ⟨g1, g2, g3, g4, g5⟩ := hf
      have h8 : x'.flat = y.flat := by
        by_cases hd1 : 12 < y.deep
        · rw [exprR_deep hd1] at he; exact absurd (show (0 : Int) = 7 from congrArg Parsed.err he) (by decide)
        · by_cases hs1 : 40 < y.size
          · rw [exprR_big hd1 hs1] at he; exact absurd (show (0 : Int) = 2 from congrArg Parsed.err he) (by decide)
          · rw [exprR_ok hd1 hs1] at he; exact congrArg Parsed.nodes he
      rw [h8]
      exact List.all_eq_true.2 fun a ha => nod_of (n := (showX false x).length) (by omega) hsf.2 (g5 a ha)
  exact ⟨x'.flat, (scanL (showX false x) 0).toks.length, rfl, by have := hsf.1; omega, scan_small (by omega), h4, small_flat hg, by rw [flat_len]; omega, right_same h1 hd hs h2 h3 hg, h5, h6⟩

set_option maxRecDepth 100000 in
set_option maxHeartbeats 8000000 in
theorem back_any (s : ByteArray) (w : World) (ht : Tabs w) : Calls Tryd.prog 6 #[.string s] w (IsTrue w) := by
  have HU := Lib.hid (cut_sizeB s 600)
  have HT := Lib.hid ht
  clear ht
  go_enter Tryd.func6, Tryd.ntmps6
  go_wp2_with fail
  change Calls _ _ #[.string (s.extract 0 (min (s.size : Int) (600 : Nat)).toNat)] _ _
  generalize s.extract 0 (min (s.size : Int) (600 : Nat)).toNat = u at *
  generalize min (s.size : Int) 600 = mm
  have hu := HU.out
  refine (tokens_any u _ (by omega)).mono ?_
  have hsm : SmallT (scanL u.data.toList 0).toks := scan_small (by rw [len_data]; omega)
  have hlen := (scan_facts u.data.toList).1
  have hpure := back_pure u.data.toList (by rw [len_data]; omega)
  rw [len_data] at hlen hpure
  generalize (scanL u.data.toList 0).toks = T at *
  rintro e w1 ⟨v1, rfl, ho, hb⟩
  obtain ⟨A1, c1, rfl, _⟩ := ho.read
  have HO := Lib.hid ho.read
  have HB := Lib.hid hb
  have HSM := Lib.hid hsm
  clear ho hb hsm
  go_wp2_with fail
  refine (parse_any _ T 0 _ HO.out (HT.out.on HB.out) (by omega) HSM.out).mono ?_
  rcases hpure with ⟨p1, p2, p3, p4, p5⟩ | ⟨x0, _, _, _, hr, to, he, hto1, hto2⟩
  · generalize exprV T 0 = q at *
    obtain ⟨qn, qt, qe, qp⟩ := q
    simp only at p1 p2 p3 p4 p5
    subst p2 p3
    have p6 : (qe != 0) = true := by simpa using p1
    rintro e w2 ⟨v2, rfl, ho, hb⟩
    obtain ⟨A2, c2, rfl, _⟩ := ho.read
    replace HB := Lib.hid (below_then HB.out hb)
    clear ho hb
    have p7 : (qp : Int) ≤ ((u.size : Nat) : Int) := p5
    go_wp2_with fail
    refine (fixed_any _ (HT.out.on HB.out)).mono ?_
    rintro e w3 ⟨rfl, hb⟩
    go_wp2_with fail
    go_ret
    exact ⟨rfl, below_then HB.out hb⟩
  · rw [he]
    clear he
    generalize x0.flat = N at *
    obtain ⟨x, rfl, hg, hd, hs, hsh, _⟩ := good_right hr
    obtain ⟨hsn, hn40⟩ := small_good hg hs
    have HSN := Lib.hid hsn
    have hsl := shown_len hg hs
    obtain ⟨M, k, hk, hk1, hst, hex, hsnM, hm40, _, hsa, _⟩ := shown_facts hg hd hs
    rintro e w2 ⟨v2, rfl, ho, hb⟩
    obtain ⟨A2, c2, rfl, _⟩ := ho.read
    have HO2 := Lib.hid ho.read
    replace HB := Lib.hid (below_then HB.out hb)
    clear ho hb hsn
    have HR := Lib.hid hr
    have HSH := Lib.hid hsh
    have HEX := Lib.hid hex
    have HST := Lib.hid hst
    have HSA := Lib.hid hsa
    have HK := Lib.hid hk
    clear hr hsh hex hst hsa hsnM hk hg
    generalize x.flat = L at *
    generalize showX false x = sh at *
    have hi1 : ¬ (to : Int) < 1 := by omega
    have hi2 : ¬ ((T.length : Nat) : Int) < (to : Int) := by omega
    have b1 : decide (to < 1) = false := by simp; omega
    have b2 : decide (T.length < to) = false := by simp; omega
    go_wp2_with fail
    refine (right_any _ L _ HO2.out (by omega) HSN.out).mono ?_
    rw [HR.out]
    rintro e w3 ⟨rfl, hb⟩
    replace HO2 := Lib.hid (HO2.out.on hb)
    replace HB := Lib.hid (below_then HB.out hb)
    clear hb
    go_wp2_with fail
    refine (show_any _ L _ HO2.out (by omega) HSN.out (HT.out.on HB.out)).mono ?_
    rw [HSH.out]
    rintro e w4 ⟨rfl, hb⟩
    replace HO2 := Lib.hid (HO2.out.on hb)
    replace HB := Lib.hid (below_then HB.out hb)
    clear hb
    go_wp2_with fail
    refine (tokens_any ⟨sh.toArray⟩ _ (by simp [ByteArray.size]; omega)).mono ?_
    rw [show (⟨sh.toArray⟩ : ByteArray).data.toList = sh from rfl]
    generalize (scanL sh 0).toks = T2 at *
    obtain rfl : T2.length = k := HK.out
    rintro e w5 ⟨v5, rfl, ho, hb⟩
    obtain ⟨A5, c5, rfl, _⟩ := ho.read
    have HO5 := Lib.hid ho.read
    replace HO2 := Lib.hid (HO2.out.on hb)
    replace HB := Lib.hid (below_then HB.out hb)
    clear ho hb
    go_wp2_with fail
    refine (parse_any _ T2 0 _ HO5.out (HT.out.on HB.out) hk1 HST.out).mono ?_
    rw [HEX.out]
    rintro e w6 ⟨v6, rfl, ho, hb⟩
    obtain ⟨A6, c6, rfl, _⟩ := ho.read
    have HO6 := Lib.hid ho.read
    replace HO2 := Lib.hid (HO2.out.on hb)
    replace HB := Lib.hid (below_then HB.out hb)
    clear ho hb
    go_wp2_with fail
    refine (same_any _ _ L M _ HO2.out HO6.out (by omega)).mono ?_
    rw [HSA.out]
    rintro e w7 ⟨rfl, hb⟩
    replace HB := Lib.hid (below_then HB.out hb)
    clear hb
    go_wp2_with fail
    refine (fixed_any _ (HT.out.on HB.out)).mono ?_
    rintro e w8 ⟨rfl, hb⟩
    go_wp2_with fail
    go_ret
    exact ⟨rfl, below_then HB.out hb⟩
end Go.Proofs.YtcmbcbdijmknnaaDoor
