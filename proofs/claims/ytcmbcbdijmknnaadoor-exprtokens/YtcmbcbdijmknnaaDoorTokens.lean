/-
  DERIVED. Layer 3: the walk of the law ExprTokens: for all tokens and every number it is true.
-/
import Derived.Test.YtcmbcbdijmknnaaDoorParses
import Derived.Laws.BitsAllLaws
import Derived.Laws.BitsLemmas
namespace Go.Proofs.YtcmbcbdijmknnaaDoor
open Go.RowKit

/-- A token as it is handed in: whatever its numbers and its text. -/
structure Raw where
  kind : Int
  text : ByteArray
  n : Int
  pl : Int
/-- A slice of tokens that is handed in. -/
def ArgT (w : World) (A : Option Addr) (n : Nat) (R : Nat → Raw) : Prop :=
  ∀ i, i < n → ∃ b off, A = some ⟨b, off, none⟩ ∧ b < w.heap.size ∧ w.cell? ⟨b, off + i * 4, none⟩ = some (.int .i64 (R i).kind) ∧ w.cell? ⟨b, off + i * 4 + 1, none⟩ = some (.string (R i).text) ∧
    w.cell? ⟨b, off + i * 4 + 2, none⟩ = some (.int .i64 (R i).n) ∧ w.cell? ⟨b, off + i * 4 + 3, none⟩ = some (.int .i64 (R i).pl)
/-- What becomes of it. -/
def rawTok (r : Raw) : Tok := ⟨r.kind, (r.text.extract 0 (min (r.text.size : Int) 40).toNat).data.toList, r.n, (bits .and .i64 r.pl 65535).toNat⟩
def rawL (R : Nat → Raw) (k : Nat) : List Tok := (List.range k).map fun i => rawTok (R i)
theorem rawL_succ (R : Nat → Raw) (k : Nat) : rawL R (k + 1) = rawL R k ++ [rawTok (R k)] := by simp [rawL, List.range_succ]
theorem raw_len (R : Nat → Raw) (k : Nat) : (rawL R k).length = k := by simp [rawL]
theorem raw_small (R : Nat → Raw) (k : Nat) : ∀ t ∈ rawL R k, t.pl ≤ 65535 ∧ t.text.length ≤ 40 := by
  intro t ht
  simp only [rawL, List.mem_map] at ht
  obtain ⟨i, _, rfl⟩ := ht
  have h := and_ffff (R i).pl
  refine ⟨by simp only [rawTok]; omega, ?_⟩
  show ((R i).text.extract 0 (min ((R i).text.size : Int) 40).toNat).data.toList.length ≤ 40
  rw [len_data, ByteArray.size_extract]; omega
theorem empty_tok (w : World) : OwnT (w.alloc (.cells #[] 34)) w.heap.size (.slice (some ⟨w.heap.size, 0, none⟩) 0 0) [] :=
  ⟨rfl, .inr ⟨w.heap.size, 0, #[], rfl, Nat.le_refl _, heap_alloc_new w _, by decide, by decide, rfl, rfl⟩⟩
theorem raw_cells {W2 : World} (r : Raw) (t : ByteArray) (q : Int) (ht : t = r.text.extract 0 (min (r.text.size : Int) 40).toNat) (hq : q = bits .and .i64 r.pl 65535) (b : Nat) (hb : b = W2.heap.size) :
    ∀ j u, (tokCells (rawTok r))[j]? = some u → (W2.alloc (.cells #[.int .i64 r.kind, .string t, .int .i64 r.n, .int .i64 q] 34)).cell? ((⟨b, 0, none⟩ : Addr).add j) = some u := by
  subst hb
  have h := tok_cells (W2 := W2) (rawTok r)
  have e1 : (⟨(rawTok r).text.toArray⟩ : ByteArray) = t := by rw [ht]; apply bytes_ext; simp [rawTok]
  have e2 : ((rawTok r).pl : Int) = q := by have := and_ffff r.pl; rw [hq]; simp only [rawTok]; omega
  rw [e1, e2] at h
  exact h

theorem raw_smallT (R : Nat → Raw) (k : Nat) : SmallT (rawL R k) := fun t ht => by
  have := raw_small R k t ht
  omega

set_option maxRecDepth 100000 in
set_option maxHeartbeats 8000000 in
theorem tokensLaw_any (A : Option Addr) (n c : Nat) (R : Nat → Raw) (i : Int) (w : World) (hA : ArgT w A n R) (ht : Tabs w) : Calls Tryd.prog 4 #[.slice A n c, .int .i64 i] w (IsTrue w) := by
  obtain ⟨i0, hi, hz0, hz1, hz2⟩ := info_parts info31
  have HZ := Lib.hid (show Tryd.prog.info? 34 = some i0 ∧ i0.zero = some (.agg #[.int .i64 0, .string ⟨#[]⟩, .int .i64 0, .int .i64 0]) ∧ i0.size = 4 ∧ i0.bytes = 40 from ⟨hi, hz0, hz1, hz2⟩)
  have HT := Lib.hid ht
  have HA := Lib.hid hA
  clear hi hz0 hz1 hz2 ht hA
  go_enter Tryd.func4, Tryd.ntmps4
  go_wp2_with fail
  go_loopw [5, 6] (fun v x wr => ∃ k : Nat, k ≤ n ∧ k ≤ 80 ∧ x = .int .i64 k ∧ OwnT wr w.heap.size v (rawL R k) ∧ Below w.heap.size w wr) (fun _ x _ => 80 - (intOf x).toNat)
  case atStart => exact ⟨0, Nat.zero_le _, Nat.zero_le _, rfl, empty_tok w, (Below.refl _ _).alloc (Nat.le_refl _) _⟩
  case round =>
    obtain ⟨k, hkn, hk60, rfl, hown, hbel⟩ := hrel
    have HO := Lib.hid hown
    have HB := Lib.hid hbel
    have hsz := hbel.size
    clear hown
    by_cases hgo : k < n ∧ k < 80
    · obtain ⟨hlt, hl6⟩ := hgo
      obtain ⟨b, off, hAA, hbl, y0, y1, y2, y3⟩ := HA.out k hlt
      subst hAA
      have x0 := (hbel.cell (p := ⟨b, off + k * 4, none⟩) hbl).trans y0
      have x1 := (hbel.cell (p := ⟨b, off + k * 4 + 1, none⟩) hbl).trans y1
      have x2 := (hbel.cell (p := ⟨b, off + k * 4 + 2, none⟩) hbl).trans y2
      have x3 := (hbel.cell (p := ⟨b, off + k * 4 + 3, none⟩) hbl).trans y3
      have HS := Lib.hid (rawL_succ R k)
      have hrl := raw_len R k
      clear y0 y1 y2 y3 hbel
      generalize R k = r at *
      generalize hG : rawL R k = G at *
      have hG60 : G.length ≤ 79 := by omega
      clear hrl hG
      go_wp2_with (at_builtin; refine wpList_append_own _ rfl (.tmp 43) (.tmp 45) 22 rfl w.heap.size 34 i0 (.agg #[.int .i64 0, .string ⟨#[]⟩, .int .i64 0, .int .i64 0]) 4 40 Tryd.underlying22 HZ.out.1 HZ.out.2.1 HZ.out.2.2.1 HZ.out.2.2.2 rfl (by decide) _ G.length (cellsT G) rfl ?dO ⟨wr.heap.size + 1, 0, none⟩ 1 1 (tokCells (rawTok r)) rfl rfl ?d1 ?d2 ?d3 ?d4 ?d5 ?_)
      case dO => exact own_on HO.out (((Below.refl _ _).alloc (Nat.le_refl _) _).alloc (by simp) _)
      case d1 => exact raw_cells r _ _ rfl rfl _ (by simp)
      case d2 => exact tok_one _
      case d3 => unfold maxLen; omega
      case d4 => omega
      case d5 => simp; omega
      intro v5 w5 hown' hgrow _
      have HK5 : Hid (OwnT w5 w.heap.size v5 (G ++ [rawTok r])) := Lib.hid (by unfold OwnT; rw [cellsT_snoc, List.length_append]; exact hown')
      have HL5 : Hid (Below w.heap.size w w5) := Lib.hid (((HB.out.alloc hsz _).alloc (by simp; omega) _).grown hgrow (by simp; omega) (fun k hk => (own_block HO.out k hk).1))
      clear hown' hgrow x0 x1 x2 x3
      go_wp2_with fail
      go_roundw
      case rel => exact ⟨k + 1, by omega, by omega, by go_num, by rw [HS.out]; exact HK5.out, HL5.out⟩
      case measure => simp [intOf]; omega
    · clear hbel
      have HSM := Lib.hid (raw_smallT R k)
      have hml := raw_len R k
      have hr2 := HO.out.read
      generalize rawL R k = T at *
      obtain ⟨A1, c1, rfl, _⟩ := HO.out.read
      replace HO := Lib.hid hr2
      have hT : T.length ≤ 10000 := by omega
      clear hml HA hr2
      have hql := exprV_len T i
      have HSS := Lib.hid (same_self (exprV T i).nodes)
      obtain ⟨q, hq⟩ : ∃ q, exprV T i = q := ⟨_, rfl⟩
      have HQ := Lib.hid hq
      rw [hq] at hql HSS
      clear hq
      have e1 : (q.to == q.to) = true := by simp
      have e2 : (q.err == q.err) = true := by simp
      have e3 : (q.pl == q.pl) = true := by simp
      by_cases hlt : k < n
      · have hk8 : ¬ (k : Int) < 80 := by omega
        have hki : (k : Int) < (n : Int) := by omega
        clear hgo
        go_wp2_with fail
        refine (parse_any _ T i _ HO.out (HT.out.on HB.out) hT HSM.out).mono ?_
        rw [HQ.out]
        rintro e w3 ⟨v3, rfl, ho, hb⟩
        have hr3 := ho.read
        obtain ⟨A3, c3, rfl, _⟩ := ho.read
        have HO3 := Lib.hid hr3
        replace HO := Lib.hid (HO.out.on hb)
        replace HB := Lib.hid (below_then HB.out hb)
        clear ho hb hr3
        go_wp2_with fail
        refine (rparse_any _ T i _ HO.out hT HSM.out).mono ?_
        rw [HQ.out]
        rintro e w4 ⟨v4, rfl, ho, hb⟩
        have hr4 := ho.read
        obtain ⟨A4, c4, rfl, _⟩ := ho.read
        have HO4 := Lib.hid hr4
        replace HO3 := Lib.hid (HO3.out.on hb)
        replace HB := Lib.hid (below_then HB.out hb)
        clear ho hb hr4
        go_wp2_with fail
        refine (rsame_any true _ _ q.nodes q.nodes _ HO3.out HO4.out (by omega)).mono ?_
        rw [HSS.out]
        rintro e w5 ⟨rfl, hb⟩
        replace HB := Lib.hid (below_then HB.out hb)
        clear hb
        go_wp2_with fail
        refine (fixed_any _ (HT.out.on HB.out)).mono ?_
        rintro e w6 ⟨rfl, hb⟩
        go_wp2_with fail
        go_ret
        exact ⟨rfl, below_then HB.out hb⟩
      · have hki : ¬ (k : Int) < (n : Int) := by omega
        clear hgo
        go_wp2_with fail
        refine (parse_any _ T i _ HO.out (HT.out.on HB.out) hT HSM.out).mono ?_
        rw [HQ.out]
        rintro e w3 ⟨v3, rfl, ho, hb⟩
        have hr3 := ho.read
        obtain ⟨A3, c3, rfl, _⟩ := ho.read
        have HO3 := Lib.hid hr3
        replace HO := Lib.hid (HO.out.on hb)
        replace HB := Lib.hid (below_then HB.out hb)
        clear ho hb hr3
        go_wp2_with fail
        refine (rparse_any _ T i _ HO.out hT HSM.out).mono ?_
        rw [HQ.out]
        rintro e w4 ⟨v4, rfl, ho, hb⟩
        have hr4 := ho.read
        obtain ⟨A4, c4, rfl, _⟩ := ho.read
        have HO4 := Lib.hid hr4
        replace HO3 := Lib.hid (HO3.out.on hb)
        replace HB := Lib.hid (below_then HB.out hb)
        clear ho hb hr4
        go_wp2_with fail
        refine (rsame_any true _ _ q.nodes q.nodes _ HO3.out HO4.out (by omega)).mono ?_
        rw [HSS.out]
        rintro e w5 ⟨rfl, hb⟩
        replace HB := Lib.hid (below_then HB.out hb)
        clear hb
        go_wp2_with fail
        refine (fixed_any _ (HT.out.on HB.out)).mono ?_
        rintro e w6 ⟨rfl, hb⟩
        go_wp2_with fail
        go_ret
        exact ⟨rfl, below_then HB.out hb⟩
end Go.Proofs.YtcmbcbdijmknnaaDoor
