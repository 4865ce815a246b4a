/-
  DERIVED. Layer 2: the walk of the law ScanTokens: for all tokens, every number and every text it is true.
-/
import Derived.Test.YtgecocpcbfccgaaDoorRefShow
import Derived.Test.YtgecocpcbfccgaaDoorFixed
import Derived.Test.YtgecocpcbfccgaaDoorBox
import Derived.Laws.BitsAllLaws
import Derived.Laws.BitsLemmas
namespace Go.Proofs.YtgecocpcbfccgaaDoor
open Go.RowKit

/-- A token as it is handed in: whatever its numbers and its text. -/
structure Raw where
  kind : Int
  text : ByteArray
  n : Int
  pl : Int
/-- A slice of tokens that is handed in. -/
def ArgT (w : World) (A : Option Addr) (n : Nat) (R : Nat → Raw) : Prop :=
  ∀ i, i < n → ∃ b off, A = some ⟨b, off, none⟩ ∧ b < w.heap.size ∧ w.cell? ⟨b, off + i * 4, none⟩ = some (.int .i64 (R i).kind) ∧ w.cell? ⟨b, off + i * 4 + 1, none⟩ = some (.string (R i).text) ∧
    w.cell? ⟨b, off + i * 4 + 2, none⟩ = some (.int .i64 (R i).n) ∧ w.cell? ⟨b, off + i * 4 + 3, none⟩ = some (.int .i64 (R i).pl)
theorem and_ffff (n : Int) : 0 ≤ bits .and .i64 n 65535 ∧ bits .and .i64 n 65535 ≤ 65535 := by
  have e : bits .and .i64 n 65535 = IntKind.i64.wrap ((BitVec.ofInt 64 n &&& BitVec.ofInt 64 65535).toNat : Int) := rfl
  have h : (BitVec.ofInt 64 n &&& BitVec.ofInt 64 65535).toNat ≤ 65535 := by
    rw [BitVec.toNat_and]
    exact Nat.le_trans Nat.and_le_right (by decide)
  rw [e, IntKind.wrap_i64]
  omega
/-- What becomes of it. -/
def rawTok (r : Raw) : Tok := ⟨r.kind, (r.text.extract 0 (min (r.text.size : Int) 40).toNat).data.toList, r.n, (bits .and .i64 r.pl 65535).toNat⟩
def rawL (R : Nat → Raw) (k : Nat) : List Tok := (List.range k).map fun i => rawTok (R i)
theorem rawL_succ (R : Nat → Raw) (k : Nat) : rawL R (k + 1) = rawL R k ++ [rawTok (R k)] := by simp [rawL, List.range_succ]
theorem raw_len (R : Nat → Raw) (k : Nat) : (rawL R k).length = k := by simp [rawL]
theorem raw_small (R : Nat → Raw) (k : Nat) : ∀ t ∈ rawL R k, t.pl ≤ 65535 ∧ t.text.length ≤ 40 := by
  intro t ht
  simp only [rawL, List.mem_map] at ht
  obtain ⟨i, _, rfl⟩ := ht
  have h := and_ffff (R i).pl
  refine ⟨by simp only [rawTok]; omega, ?_⟩
  show ((R i).text.extract 0 (min ((R i).text.size : Int) 40).toNat).data.toList.length ≤ 40
  rw [len_data, ByteArray.size_extract]; omega
theorem empty_tok (w : World) : OwnT (w.alloc (.cells #[] 31)) w.heap.size (.slice (some ⟨w.heap.size, 0, none⟩) 0 0) [] :=
  ⟨rfl, .inr ⟨w.heap.size, 0, #[], rfl, Nat.le_refl _, heap_alloc_new w _, by decide, by decide, rfl, rfl⟩⟩
theorem raw_cells {W2 : World} (r : Raw) (t : ByteArray) (q : Int) (ht : t = r.text.extract 0 (min (r.text.size : Int) 40).toNat) (hq : q = bits .and .i64 r.pl 65535) (b : Nat) (hb : b = W2.heap.size) :
    ∀ j u, (tokCells (rawTok r))[j]? = some u → (W2.alloc (.cells #[.int .i64 r.kind, .string t, .int .i64 r.n, .int .i64 q] 31)).cell? ((⟨b, 0, none⟩ : Addr).add j) = some u := by
  subst hb
  have h := tok_cells (W2 := W2) (rawTok r)
  have e1 : (⟨(rawTok r).text.toArray⟩ : ByteArray) = t := by rw [ht]; apply bytes_ext; simp [rawTok]
  have e2 : ((rawTok r).pl : Int) = q := by have := and_ffff r.pl; rw [hq]; simp only [rawTok]; omega
  rw [e1, e2] at h
  exact h

set_option maxRecDepth 100000 in
set_option maxHeartbeats 8000000 in
theorem tokens_any (A : Option Addr) (n c : Nat) (R : Nat → Raw) (i : Int) (s : ByteArray) (w : World) (hA : ArgT w A n R) (hw : Signs w) : Calls Tryd.prog 4 #[.slice A n c, .int .i64 i, .string s] w (IsTrue w) := by
  obtain ⟨i0, hi, hz0, hz1, hz2⟩ := info_parts info31
  have HZ := Lib.hid (show Tryd.prog.info? 31 = some i0 ∧ i0.zero = some (.agg #[.int .i64 0, .string ⟨#[]⟩, .int .i64 0, .int .i64 0]) ∧ i0.size = 4 ∧ i0.bytes = 40 from ⟨hi, hz0, hz1, hz2⟩)
  have HW := Lib.hid hw
  have HA := Lib.hid hA
  clear hi hz0 hz1 hz2 hw hA
  go_enter Tryd.func4, Tryd.ntmps4
  go_wp2_with fail
  go_loopw [7, 8] (fun v x wr => ∃ k : Nat, k ≤ n ∧ k ≤ 60 ∧ x = .int .i64 k ∧ OwnT wr w.heap.size v (rawL R k) ∧ Below w.heap.size w wr) (fun _ x _ => 60 - (intOf x).toNat)
  case atStart => exact ⟨0, Nat.zero_le _, Nat.zero_le _, rfl, empty_tok w, (Below.refl _ _).alloc (Nat.le_refl _) _⟩
  case round =>
    obtain ⟨k, hkn, hk60, rfl, hown, hbel⟩ := hrel
    have HO := Lib.hid hown
    have HB := Lib.hid hbel
    have hsz := hbel.size
    clear hown
    by_cases hlt : k < n
    · by_cases hl6 : k < 60
      · obtain ⟨b, off, hAA, hbl, y0, y1, y2, y3⟩ := HA.out k hlt
        subst hAA
        have x0 := (hbel.cell (p := ⟨b, off + k * 4, none⟩) hbl).trans y0
        have x1 := (hbel.cell (p := ⟨b, off + k * 4 + 1, none⟩) hbl).trans y1
        have x2 := (hbel.cell (p := ⟨b, off + k * 4 + 2, none⟩) hbl).trans y2
        have x3 := (hbel.cell (p := ⟨b, off + k * 4 + 3, none⟩) hbl).trans y3
        have HS := Lib.hid (rawL_succ R k)
        have hrl := raw_len R k
        clear y0 y1 y2 y3 hbel
        generalize R k = r at *
        generalize hG : rawL R k = G at *
        have hG60 : G.length ≤ 59 := by omega
        clear hrl hG
        go_wp2_with (at_builtin; refine wpList_append_own _ rfl (.tmp 37) (.tmp 39) 22 rfl w.heap.size 31 i0 (.agg #[.int .i64 0, .string ⟨#[]⟩, .int .i64 0, .int .i64 0]) 4 40 Tryd.underlying22 HZ.out.1 HZ.out.2.1 HZ.out.2.2.1 HZ.out.2.2.2 rfl (by decide) _ G.length (cellsT G) rfl ?dO ⟨wr.heap.size + 1, 0, none⟩ 1 1 (tokCells (rawTok r)) rfl rfl ?d1 ?d2 ?d3 ?d4 ?d5 ?_)
        case dO => exact own_on HO.out (((Below.refl _ _).alloc (Nat.le_refl _) _).alloc (by simp) _)
        case d1 => exact raw_cells r _ _ rfl rfl _ (by simp)
        case d2 => exact tok_one _
        case d3 => unfold maxLen; omega
        case d4 => omega
        case d5 => simp; omega
        intro v5 w5 hown' hgrow _
        have HK5 : Hid (OwnT w5 w.heap.size v5 (G ++ [rawTok r])) := Lib.hid (by unfold OwnT; rw [cellsT_snoc, List.length_append]; exact hown')
        have HL5 : Hid (Below w.heap.size w w5) := Lib.hid (((HB.out.alloc hsz _).alloc (by simp; omega) _).grown hgrow (by simp; omega) (fun k hk => (own_block HO.out k hk).1))
        clear hown' hgrow x0 x1 x2 x3
        go_wp2_with fail
        go_roundw
        case rel => exact ⟨k + 1, by omega, by omega, by go_num, by rw [HS.out]; exact HK5.out, HL5.out⟩
        case measure => simp [intOf]; omega
      · clear hbel
        have HM := Lib.hid (raw_small R k)
        have hml := raw_len R k
        have HO2 := Lib.hid HO.out.read
        generalize rawL R k = M at *
        have hM60 : M.length ≤ 60 := by omega
        have HSL : Hid ((showL M).length ≤ 100000) := Lib.hid (by
          have := show_take (fun t ht => (HM.out t ht).2) M.length (Nat.le_refl _)
          rw [List.take_of_length_le (Nat.le_refl _)] at this; omega)
        clear HO hml HA hk60
        go_wp2_with fail
        refine (show_any _ M _ HO2.out (by omega) HSL.out).mono ?_
        generalize hsh : showL M = sh
        have HSH := Lib.hid hsh
        clear hsh HSL
        rintro e w1 ⟨rfl, hb⟩
        replace HO2 := Lib.hid (HO2.out.on hb)
        replace HB := Lib.hid (below_then HB.out hb)
        clear hb
        go_wp2_with fail
        refine (rshow_any _ M _ HO2.out hM60 (fun t ht => (HM.out t ht).2)).mono ?_
        rw [HSH.out]
        rintro e w2 ⟨rfl, hb⟩
        replace HO2 := Lib.hid (HO2.out.on hb)
        replace HB := Lib.hid (below_then HB.out hb)
        clear hb
        have hsq : (sh == sh) = true := by simp
        go_wp2_with fail
        generalize s.extract 0 (min (s.size : Int) 40).toNat = u
        generalize min (s.size : Int) 40 = mu
        refine (is_any _ M i u _ HO2.out).mono ?_
        generalize hib : isB M i u.data.toList = ib
        have HIB := Lib.hid hib
        clear hib
        rintro e w3 ⟨rfl, hb⟩
        replace HO2 := Lib.hid (HO2.out.on hb)
        replace HB := Lib.hid (below_then HB.out hb)
        clear hb
        go_wp2_with fail
        refine (ris_any _ M i u _ HO2.out).mono ?_
        rw [HIB.out]
        rintro e w4 ⟨rfl, hb⟩
        replace HO2 := Lib.hid (HO2.out.on hb)
        replace HB := Lib.hid (below_then HB.out hb)
        clear hb
        have hbb : (ib == ib) = true := by cases ib <;> rfl
        have HSM : Hid (SmallT M) := Lib.hid (fun t ht => ⟨Nat.le_trans (HM.out t ht).1 (by decide), Nat.le_trans (HM.out t ht).2 (by decide)⟩)
        go_wp2_with fail
        refine (place_any _ M i _ HO2.out (by omega) HSM.out).mono ?_
        generalize hpv : placeV M i = pv
        have HPV := Lib.hid hpv
        clear hpv
        rintro e w5 ⟨rfl, hb⟩
        replace HO2 := Lib.hid (HO2.out.on hb)
        replace HB := Lib.hid (below_then HB.out hb)
        clear hb
        go_wp2_with fail
        refine (rplace_any _ M i _ HO2.out (by omega) HSM.out).mono ?_
        rw [HPV.out]
        rintro e w6 ⟨rfl, hb⟩
        replace HB := Lib.hid (below_then HB.out hb)
        clear hb HO2
        have hpq : (pv == pv) = true := by simp
        go_wp2_with fail
        refine (fixed_any _ (HW.out.on HB.out)).mono ?_
        rintro e w7 ⟨rfl, hb⟩
        replace HB := Lib.hid (below_then HB.out hb)
        clear hb
        go_wp2_with fail
        go_ret
        exact ⟨rfl, HB.out⟩
    · clear hbel
      have HM := Lib.hid (raw_small R k)
      have hml := raw_len R k
      have HO2 := Lib.hid HO.out.read
      generalize rawL R k = M at *
      have hM60 : M.length ≤ 60 := by omega
      have HSL : Hid ((showL M).length ≤ 100000) := Lib.hid (by
        have := show_take (fun t ht => (HM.out t ht).2) M.length (Nat.le_refl _)
        rw [List.take_of_length_le (Nat.le_refl _)] at this; omega)
      clear HO hml HA hk60
      go_wp2_with fail
      refine (show_any _ M _ HO2.out (by omega) HSL.out).mono ?_
      generalize hsh : showL M = sh
      have HSH := Lib.hid hsh
      clear hsh HSL
      rintro e w1 ⟨rfl, hb⟩
      replace HO2 := Lib.hid (HO2.out.on hb)
      replace HB := Lib.hid (below_then HB.out hb)
      clear hb
      go_wp2_with fail
      refine (rshow_any _ M _ HO2.out hM60 (fun t ht => (HM.out t ht).2)).mono ?_
      rw [HSH.out]
      rintro e w2 ⟨rfl, hb⟩
      replace HO2 := Lib.hid (HO2.out.on hb)
      replace HB := Lib.hid (below_then HB.out hb)
      clear hb
      have hsq : (sh == sh) = true := by simp
      go_wp2_with fail
      generalize s.extract 0 (min (s.size : Int) 40).toNat = u
      generalize min (s.size : Int) 40 = mu
      refine (is_any _ M i u _ HO2.out).mono ?_
      generalize hib : isB M i u.data.toList = ib
      have HIB := Lib.hid hib
      clear hib
      rintro e w3 ⟨rfl, hb⟩
      replace HO2 := Lib.hid (HO2.out.on hb)
      replace HB := Lib.hid (below_then HB.out hb)
      clear hb
      go_wp2_with fail
      refine (ris_any _ M i u _ HO2.out).mono ?_
      rw [HIB.out]
      rintro e w4 ⟨rfl, hb⟩
      replace HO2 := Lib.hid (HO2.out.on hb)
      replace HB := Lib.hid (below_then HB.out hb)
      clear hb
      have hbb : (ib == ib) = true := by cases ib <;> rfl
      have HSM : Hid (SmallT M) := Lib.hid (fun t ht => ⟨Nat.le_trans (HM.out t ht).1 (by decide), Nat.le_trans (HM.out t ht).2 (by decide)⟩)
      go_wp2_with fail
      refine (place_any _ M i _ HO2.out (by omega) HSM.out).mono ?_
      generalize hpv : placeV M i = pv
      have HPV := Lib.hid hpv
      clear hpv
      rintro e w5 ⟨rfl, hb⟩
      replace HO2 := Lib.hid (HO2.out.on hb)
      replace HB := Lib.hid (below_then HB.out hb)
      clear hb
      go_wp2_with fail
      refine (rplace_any _ M i _ HO2.out (by omega) HSM.out).mono ?_
      rw [HPV.out]
      rintro e w6 ⟨rfl, hb⟩
      replace HB := Lib.hid (below_then HB.out hb)
      clear hb HO2
      have hpq : (pv == pv) = true := by simp
      go_wp2_with fail
      refine (fixed_any _ (HW.out.on HB.out)).mono ?_
      rintro e w7 ⟨rfl, hb⟩
      replace HB := Lib.hid (below_then HB.out hb)
      clear hb
      go_wp2_with fail
      go_ret
      exact ⟨rfl, HB.out⟩
end Go.Proofs.YtgecocpcbfccgaaDoor
