/-
  DERIVED. Texts of the walk, packed: RLines, RShow4, Tells4.
-/
import Derived.Test.YtpeohfgadnfnpaaGreatDoorQ24
import Derived.Test.YtpeohfgadnfnpaaGreatDoorQ53
import Derived.Test.YtpeohfgadnfnpaaGreatDoorQ55
import Derived.Test.YtpeohfgadnfnpaaGreatDoorQ32
import Derived.Test.YtpeohfgadnfnpaaGreatDoorQ50
import Derived.Test.YtpeohfgadnfnpaaGreatDoorQ38
import Derived.Test.YtpeohfgadnfnpaaGreatDoorQ52
import Derived.Test.YtpeohfgadnfnpaaGreatDoorQ08
/-
  DERIVED. Layer 4: the contract of the document's Lines: right statements as lines.
-/
namespace Go.Proofs.YtpeohfgadnfnpaaGreatDoor
open Go.RowKit

def LinesSays (n : Nat) : Prop := ∀ (b : Bk) (v : Value) (ind : List UInt8) (w : World), b.count = n → GoodB b → n ≤ 40 → ind.length + 2 * n ≤ 100 → ReadSt w v b.flat → Calls Tryz.prog 36 #[v, .string ⟨ind.toArray⟩] w (GivesSB (linesB ind b) w)
theorem stands_else {b p x e r : Bk} {s : Stm} {k : Nat} (h : StandsAt b k p s x e r) : (b.flat.take (k + 1 + x.count + e.count)).drop (k + 1 + x.count) = e.flat := by
  obtain ⟨rfl, rfl⟩ := h
  have ef : (p.app (.cons s x e r)).flat = p.flat ++ (s :: (x.flat ++ (e.flat ++ r.flat))) := by rw [app_flat]; rfl
  rw [ef, List.drop_take, ← flat_count p, ← flat_count x, ← flat_count e]
  rw [show p.flat.length + 1 + x.flat.length + e.flat.length - (p.flat.length + 1 + x.flat.length) = e.flat.length from by omega]
  rw [show p.flat.length + 1 + x.flat.length = p.flat.length + (1 + x.flat.length) from by omega, ← List.drop_drop, List.drop_left, ← List.drop_drop]
  show List.take e.flat.length (List.drop x.flat.length (x.flat ++ (e.flat ++ r.flat))) = _
  rw [List.drop_left, List.take_left]
theorem good_app {p q : Bk} (h : GoodB (p.app q)) : GoodB p ∧ GoodB q := by
  obtain ⟨h1, h2⟩ := h
  rw [app_flat, List.all_append, Bool.and_eq_true] at h2
  obtain ⟨g1, g2⟩ := (app_fit p q).1 h1
  exact ⟨⟨g1, h2.1⟩, ⟨g2, h2.2⟩⟩
theorem lines_at {n m : Nat} (ih : ∀ m, m < n → LinesSays m) {b : Bk} {v : Value} {ind : List UInt8} {w : World} (hm : m < n) (hb : b.count = m) (hg : GoodB b) (h40 : m ≤ 40) (hi : ind.length + 2 * m ≤ 100) (h : ReadSt w v b.flat) : Calls Tryz.prog 36 #[v, .string ⟨ind.toArray⟩] w (GivesSB (linesB ind b) w) :=
  ih m hm b v ind w hb hg h40 hi h

theorem lines_at2 {n m : Nat} (ih : ∀ m, m < n → LinesSays m) {b : Bk} {v : Value} {ind : List UInt8} {u : ByteArray} {w : World} (hu : u = ⟨ind.toArray⟩) (hm : m < n) (hb : b.count = m) (hg : GoodB b) (h40 : m ≤ 40) (hi : ind.length + 2 * m ≤ 100) (h : ReadSt w v b.flat) : Calls Tryz.prog 36 #[v, .string u] w (GivesSB (linesB ind b) w) := by
  subst hu
  exact lines_at ih hm hb hg h40 hi h

set_option maxRecDepth 100000 in
set_option maxHeartbeats 8000000 in
theorem rlines_step (n : Nat) (ih : ∀ m, m < n → LinesSays m) : LinesSays n := by
  intro b v ind w hn hg h40 hi h
  have HL := Lib.hid h
  have IH := Lib.hid ih
  have HG := Lib.hid hg
  have HN := Lib.hid hn
  clear ih hg
  obtain ⟨A, c, rfl, hc, hm, hr⟩ := h
  rw [flat_count, hn] at hc HL ⊢
  have HR := Lib.hid hr
  clear hr hn
  obtain ⟨S, hS⟩ : ∃ S, linesB ind b = S := ⟨_, rfl⟩
  rw [hS]
  have HS := Lib.hid hS
  clear hS
  go_enter Tryz.func36, Tryz.ntmps36
  go_wp2_with fail
  go_loopw [5, 6] (fun sv iv wr => ∃ (p q : Bk) (T : List UInt8) (k : Nat), b = p.app q ∧ sv = .string ⟨T.toArray⟩ ∧ T = linesB ind p ∧ iv = .int .i64 k ∧ k = p.count ∧ Below w.heap.size w wr) (fun _ i _ => n - (intOf i).toNat)
  case atStart => exact ⟨.nil, b, [], 0, rfl, rfl, rfl, rfl, rfl, Below.refl _ _⟩
  case round =>
    obtain ⟨p, q, T, k, hb, rfl, hT, rfl, hk, hB⟩ := hrel
    have HB := Lib.hid hB
    have HBQ := Lib.hid hb
    have HT := Lib.hid hT
    have HK := Lib.hid hk
    clear hB hb hT hk
    have hGG : GoodB p ∧ GoodB q := good_app (by rw [← HBQ.out]; exact HG.out)
    have HGG := Lib.hid hGG
    clear hGG
    cases q with
    | nil =>
      have hkn : k = n := by rw [HK.out, ← HN.out, HBQ.out, app_nil]
      have HE : Hid (S = T) := Lib.hid (by rw [← HS.out, HT.out, HBQ.out, app_nil])
      have hlt : ¬ k < n := by omega
      go_wp2_with fail
      go_ret
      exact givesSB_of rfl HE.out.symm HB.out
    | cons s x e r =>
      have hst : StandsAt b k p s x e r := ⟨HBQ.out, HK.out⟩
      obtain ⟨q1, q2, q3, q4, q5, q6, q7⟩ := stands_parts hst HG.out.1
      have q8 := stands_else hst
      obtain ⟨f1, f2, f3, f4, f5, f6, f7, f8⟩ := good_cons.1 HGG.out.2
      obtain ⟨g, o, AE, nE, cE, AF, nF, cF, rfl, h9⟩ := HR.out k s q1
      have H9 := Lib.hid (h9.on HB.out)
      clear h9 q1
      obtain ⟨lt9, x0, x1, x2, x3, x4, x5, x6, x7, x8, re, rf⟩ := H9.out
      have hlt : k < n := by rw [← HN.out, q4]; omega
      have HRE := Lib.hid re
      have HRF := Lib.hid rf
      have HFS := Lib.hid f5
      have hHl := head_len f5
      have hTl : T.length ≤ 1000000 := by
        rw [HT.out]
        exact lines_small HGG.out.1 (by have := HK.out; omega) (by omega)
      have HX := Lib.hid f6
      have HEE := Lib.hid f7
      have HF34 := Lib.hid (show (0 < x.count → blkK s.kind) ∧ (0 < e.count → s.kind = 11) from ⟨f3, f4⟩)
      obtain ⟨nx, hnx⟩ : ∃ nx, x.count = nx := ⟨_, rfl⟩
      obtain ⟨ne, hne⟩ : ∃ ne, e.count = ne := ⟨_, rfl⟩
      rw [hnx] at q2 q4 q6 q7 q8
      rw [hne] at q3 q4 q7 q8
      rw [hnx, hne] at HF34
      rw [q2] at x6
      rw [q3] at x7
      have hsum : k + 1 + nx + ne ≤ n := by rw [← HN.out, q4]; omega
      have HNX := Lib.hid hnx
      have HNE := Lib.hid hne
      have HQ6 := Lib.hid q6
      have HQ8 := Lib.hid q8
      clear f1 f2 f3 f4 f5 f6 f7 f8 q2 q3 q4 q5 q6 q7 q8 re rf hst hnx hne
      go_upto_region 4 with (fail)
      have hbx := (Below.refl wr.heap.size wr).alloc (Nat.le_refl _) (.cells #[.int .i64 s.kind, .string ⟨s.reg.toArray⟩, .string ⟨s.name.toArray⟩, .slice AE nE cE, .slice AF nF cF, .int .i64 s.n, .int .i64 nx, .int .i64 ne, .int .i64 s.pl] 31)
      have HBX := Lib.hid (below_then HB.out hbx)
      have HREX := Lib.hid (HRE.out.on hbx)
      have HRFX := Lib.hid (HRF.out.on hbx)
      have N9 := Lib.hid (nine_new wr (.int .i64 s.kind) (.string ⟨s.reg.toArray⟩) (.string ⟨s.name.toArray⟩) (.slice AE nE cE) (.slice AF nF cF) (.int .i64 s.n) (.int .i64 nx) (.int .i64 ne) (.int .i64 s.pl) 31)
      clear hbx
      generalize wr.alloc (.cells #[.int .i64 s.kind, .string ⟨s.reg.toArray⟩, .string ⟨s.name.toArray⟩, .slice AE nE cE, .slice AF nF cF, .int .i64 s.n, .int .i64 nx, .int .i64 ne, .int .i64 s.pl] 31) = X at *
      clear x0 x1 x2 x3 x4 x5 x6 x7 x8 lt9 H9 HRE HRF
      obtain ⟨H, hH⟩ : ∃ H, headS s = H := ⟨_, rfl⟩
      rw [hH] at hHl
      have HH := Lib.hid hH
      clear hH
      have w1 : IntKind.i64.wrap ((k : Int) + 1) = (k : Int) + 1 := IntWalk.i64_in _ (by omega)
      have w2 : IntKind.i64.wrap ((k : Int) + 1 + nx) = (k : Int) + 1 + nx := IntWalk.i64_in _ (by omega)
      have w3 : IntKind.i64.wrap ((k : Int) + 1 + nx + ne) = (k : Int) + 1 + nx + ne := IntWalk.i64_in _ (by omega)
      obtain ⟨z, z0, z1, z2, z3, z4, z5, z6, z7, z8⟩ := N9.out
      go_wp2_with fail
      refine (rhead_any ⟨s.kind, s.reg, s.name, s.e, s.f, s.n, nx, ne, s.pl⟩ (.slice AE nE cE) (.slice AF nF cF) _ HREX.out HRFX.out HFS.out).mono ?_
      rw [show headS ⟨s.kind, s.reg, s.name, s.e, s.f, s.n, nx, ne, s.pl⟩ = H from HH.out]
      rintro e1 wh ⟨rfl, hbh⟩
      have HBH := Lib.hid (below_then HBX.out hbh)
      have NH := Lib.hid (N9.out.on hbh)
      clear hbh z z0 z1 z2 z3 z4 z5 z6 z7 z8 N9 HREX HRFX HBX
      obtain ⟨z, z0, z1, z2, z3, z4, z5, z6, z7, z8⟩ := NH.out
      have hcat1 : ¬ (9223372036854775807 < ind.length + H.length) := by omega
      have hcat2 : ¬ (9223372036854775807 < T.length + (ind.length + H.length)) := by omega
      go_upto_region 6 with (fail)
      go_cut [35] from 9 to 74 (fun cv wx => cv = .bool (decide (blkK s.kind)) ∧ wx = wh)
      case first =>
        by_cases c1 : s.kind = 11
        · have c1n : (s.kind == 11) = true := by simp [c1]
          have HD := Lib.hid (decide_eq_true (show blkK s.kind from .inl c1))
          clear c1
          go_wp2_with fail
          go_meet
          case rel => exact ⟨congrArg Value.bool HD.out.symm, rfl⟩
        · have c1n : (s.kind == 11) = false := by simp [c1]
          by_cases c2 : s.kind = 12
          · have c2n : (s.kind == 12) = true := by simp [c2]
            have HD := Lib.hid (decide_eq_true (show blkK s.kind from .inr c2))
            clear c1 c2
            go_wp2_with fail
            go_meet
            case rel => exact ⟨congrArg Value.bool HD.out.symm, rfl⟩
          · have c2n : (s.kind == 12) = false := by simp [c2]
            have HD := Lib.hid (decide_eq_false (show ¬ blkK s.kind from by unfold blkK; omega))
            clear c1 c2
            go_wp2_with fail
            go_meet
            case rel => exact ⟨congrArg Value.bool HD.out.symm, rfl⟩
      case rest =>
      obtain ⟨rfl, hwc⟩ := hcut
      rw [hwc]
      clear hwc
      by_cases hblk : blkK s.kind
      · rw [decide_eq_true hblk]
        have HRD := Lib.hid (HL.out.on HBH.out)
        have HRB := Lib.hid (HRD.out.part (k := k + 1) (j := k + 1 + nx) (by omega) (by omega))
        have HRE := Lib.hid (HRD.out.part (k := k + 1 + nx) (j := k + 1 + nx + ne) (by omega) (by omega))
        rw [HQ6.out] at HRB
        rw [HQ8.out] at HRE
        have hi1 : (k : Int) + 1 ≤ (k : Int) + 1 + nx := by omega
        have hi2 : (k : Int) + 1 + nx ≤ (c : Int) := by omega
        have hi3 : (0 : Int) ≤ (k : Int) + 1 := by omega
        have hi4 : (0 : Int) ≤ (k : Int) + 1 + nx := by omega
        have hi5 : (k : Int) + 1 + nx ≤ (k : Int) + 1 + nx + ne := by omega
        have hi6 : (k : Int) + 1 + nx + ne ≤ (c : Int) := by omega
        obtain ⟨AX, hax⟩ : ∃ AX : Option Addr, (if c = k + 1 then (some ⟨g, o, none⟩ : Option Addr) else some ⟨g, o + (k + 1) * 9, none⟩) = AX := ⟨_, rfl⟩
        obtain ⟨AY, hay⟩ : ∃ AY : Option Addr, (if c = k + 1 + nx then (some ⟨g, o, none⟩ : Option Addr) else some ⟨g, o + (k + 1 + nx) * 9, none⟩) = AY := ⟨_, rfl⟩
        have HXX : Hid (ReadSt wh (.slice AX nx (c - (k + 1))) x.flat) := Lib.hid (by
          have h9 := HRB.out
          rw [show k + 1 + nx - (k + 1) = nx from by omega] at h9
          rw [← hax]
          by_cases hv : c = k + 1
          · rw [if_pos hv]
            exact readSt_zero (List.length_eq_zero_iff.1 (by rw [flat_count, HNX.out]; omega)) (by omega) (by omega)
          · rw [if_neg hv]; exact h9)
        have HYY : Hid (ReadSt wh (.slice AY ne (c - (k + 1 + nx))) e.flat) := Lib.hid (by
          have h9 := HRE.out
          rw [show k + 1 + nx + ne - (k + 1 + nx) = ne from by omega] at h9
          rw [← hay]
          by_cases hv : c = k + 1 + nx
          · rw [if_pos hv]
            exact readSt_zero (List.length_eq_zero_iff.1 (by rw [flat_count, HNE.out]; omega)) (by omega) (by omega)
          · rw [if_neg hv]; exact h9)
        clear HRB HRE HRD
        have tn1 : ((k : Int) + 1 + (nx : Int)).toNat = k + 1 + nx := by omega
        have tn2 : ((k : Int) + 1 + (nx : Int) + (ne : Int)).toNat = k + 1 + nx + ne := by omega
        have hnx1 : nx < n := by omega
        have hne1 : ne < n := by omega
        have hnx2 : nx ≤ 40 := by omega
        have hne2 : ne ≤ 40 := by omega
        obtain ⟨LX, hLX⟩ : ∃ LX, linesB (ind ++ [32, 32]) x = LX := ⟨_, rfl⟩
        obtain ⟨LY, hLY⟩ : ∃ LY, linesB (ind ++ [32, 32]) e = LY := ⟨_, rfl⟩
        have hLXl : LX.length ≤ 1000000 := by rw [← hLX]; exact lines_small HX.out (by rw [HNX.out]; omega) (by rw [List.length_append]; simp only [List.length_cons, List.length_nil]; omega)
        have hLYl : LY.length ≤ 1000000 := by rw [← hLY]; exact lines_small HEE.out (by rw [HNE.out]; omega) (by rw [List.length_append]; simp only [List.length_cons, List.length_nil]; omega)
        have HLX := Lib.hid hLX
        have HLY := Lib.hid hLY
        clear hLX hLY
        have hid1 : (ind ++ [32, 32]).length + 2 * nx ≤ 100 := by rw [List.length_append]; simp only [List.length_cons, List.length_nil]; omega
        have hid2 : (ind ++ [32, 32]).length + 2 * ne ≤ 100 := by rw [List.length_append]; simp only [List.length_cons, List.length_nil]; omega
        have HI1 := Lib.hid hid1
        have HI2 := Lib.hid hid2
        clear hid1 hid2
        have HAP : Hid (b = (p.app (.cons s x e .nil)).app r) := Lib.hid (by rw [app_assoc]; exact HBQ.out)
        have HKN : Hid (k + 1 + nx + ne = (p.app (.cons s x e .nil)).count) := Lib.hid (by rw [app_count, HK.out]; simp only [Bk.count]; rw [HNX.out, HNE.out]; omega)
        have hcat3 : ¬ (9223372036854775807 < ind.length + 2) := by omega
        have hcat4 : ¬ (9223372036854775807 < 3 + LX.length) := by omega
        have hcat5 : ¬ (9223372036854775807 < T.length + (ind.length + H.length) + (3 + LX.length)) := by omega
        go_wp2_with fail
        refine (lines_at2 IH.out (str_app ind [32, 32]) hnx1 HNX.out HX.out hnx2 HI1.out HXX.out).mono ?_
        rw [HLX.out]
        rintro e1 wx ⟨rfl, hbx⟩
        have HBY := Lib.hid (below_then HBH.out hbx)
        have NX := Lib.hid (NH.out.on hbx)
        have HYX := Lib.hid (HYY.out.on hbx)
        clear hbx z z0 z1 z2 z3 z4 z5 z6 z7 z8 NH
        obtain ⟨z, z0, z1, z2, z3, z4, z5, z6, z7, z8⟩ := NX.out
        by_cases hpos : 0 < ne
        · have hcat6 : ¬ (9223372036854775807 < ind.length + 9) := by omega
          have hcat7 : ¬ (9223372036854775807 < ind.length + 9 + LY.length) := by omega
          have hcat8 : ¬ (9223372036854775807 < T.length + (ind.length + H.length) + (3 + LX.length) + (ind.length + 9 + LY.length)) := by omega
          have hcat9 : ¬ (9223372036854775807 < T.length + (ind.length + H.length) + (3 + LX.length) + (ind.length + 9 + LY.length) + (ind.length + 2)) := by omega
          have HREL : Hid (T ++ (ind ++ H) ++ ([32, 123, 10] ++ LX) ++ (ind ++ [125, 32, 101, 108, 115, 101, 32, 123, 10] ++ LY) ++ (ind ++ [125, 10]) = linesB ind (p.app (.cons s x e .nil))) := Lib.hid (by
            rw [app_lines, ← HT.out]
            simp only [linesB]
            rw [if_pos hblk, HH.out, HLX.out, HLY.out, if_pos (by rw [HNE.out]; exact hpos)]; simp [elseW])
          clear hblk
          have hposI : (0 : Int) < (ne : Int) := by omega
          have hAY : AY = some ⟨g, o + (k + 1 + nx) * 9, none⟩ := by rw [← hay, if_neg (by omega)]
          rw [hAY] at HYX
          clear hAY hay
          go_wp2_with fail
          refine (lines_at2 IH.out (str_app ind [32, 32]) hne1 HNE.out HEE.out hne2 HI2.out HYX.out).mono ?_
          rw [HLY.out]
          rintro e1 wy ⟨rfl, hby⟩
          have HBZ := Lib.hid (below_then HBY.out hby)
          have NY := Lib.hid (NX.out.on hby)
          clear hby z z0 z1 z2 z3 z4 z5 z6 z7 z8
          obtain ⟨z, z0, z1, z2, z3, z4, z5, z6, z7, z8⟩ := NY.out
          go_wp2_with fail
          go_roundw
          case rel => exact ⟨p.app (.cons s x e .nil), r, T ++ (ind ++ H) ++ ([32, 123, 10] ++ LX) ++ (ind ++ [125, 32, 101, 108, 115, 101, 32, 123, 10] ++ LY) ++ (ind ++ [125, 10]), k + 1 + nx + ne, HAP.out, congrArg Value.string (by simp only [str_app]), HREL.out, by go_num, HKN.out, HBZ.out⟩
          case measure => simp [intOf]; omega
        · have hcat8 : ¬ (9223372036854775807 < T.length + (ind.length + H.length) + (3 + LX.length) + (ind.length + 2)) := by omega
          have HREL : Hid (T ++ (ind ++ H) ++ ([32, 123, 10] ++ LX) ++ (ind ++ [125, 10]) = linesB ind (p.app (.cons s x e .nil))) := Lib.hid (by
            rw [app_lines, ← HT.out]
            simp only [linesB]
            rw [if_pos hblk, HH.out, HLX.out, if_neg (by rw [HNE.out]; exact hpos)]; simp)
          clear hblk
          have hposI : ¬ (0 : Int) < (ne : Int) := by omega
          go_wp2_with fail
          go_roundw
          case rel => exact ⟨p.app (.cons s x e .nil), r, T ++ (ind ++ H) ++ ([32, 123, 10] ++ LX) ++ (ind ++ [125, 10]), k + 1 + nx + ne, HAP.out, congrArg Value.string (by simp only [str_app]), HREL.out, by go_num, HKN.out, HBY.out⟩
          case measure => simp [intOf]; omega
      · rw [decide_eq_false hblk]
        have hx0 : nx = 0 := by
          rcases Nat.eq_zero_or_pos nx with h | h
          · exact h
          · exact absurd (HF34.out.1 h) hblk
        have he0 : ne = 0 := by
          rcases Nat.eq_zero_or_pos ne with h | h
          · exact h
          · exact absurd (.inl (HF34.out.2 h)) hblk
        have HX0 := Lib.hid hx0
        have HE0 := Lib.hid he0
        clear hx0 he0
        have hcat3 : ¬ (9223372036854775807 < T.length + (ind.length + H.length) + 2) := by omega
        have HREL : Hid (T ++ (ind ++ H) ++ [59, 10] = linesB ind (p.app (.cons s x e .nil))) := Lib.hid (by
          rw [app_lines, ← HT.out]
          simp only [linesB]
          rw [if_neg hblk, HH.out]; simp)
        have HAP : Hid (b = (p.app (.cons s x e .nil)).app r) := Lib.hid (by rw [app_assoc]; exact HBQ.out)
        have HKN : Hid (k + 1 + nx + ne = (p.app (.cons s x e .nil)).count) := Lib.hid (by rw [app_count, HK.out]; simp only [Bk.count]; rw [HNX.out, HNE.out]; omega)
        clear hblk
        go_wp2_with fail
        go_roundw
        case rel => exact ⟨p.app (.cons s x e .nil), r, T ++ (ind ++ H) ++ [59, 10], k + 1 + nx + ne, HAP.out, congrArg Value.string (by simp only [str_app]), HREL.out, by go_num, HKN.out, HBH.out⟩
        case measure => simp [intOf]; omega
theorem rlines_all : ∀ n, LinesSays n := fun n => Nat.strongRecOn n fun n ih => rlines_step n ih
end Go.Proofs.YtpeohfgadnfnpaaGreatDoor
/-
  DERIVED. Layer 4: the contract of the document's Show.
-/
namespace Go.Proofs.YtpeohfgadnfnpaaGreatDoor
open Go.RowKit

set_option maxRecDepth 100000 in
set_option maxHeartbeats 4000000 in
theorem rshow4_any (v : Value) (L : List Stm) (w : World) (h : ReadSt w v L) (hl : L.length ≤ 10000) (hs : ∀ x ∈ L, SmallS x) : Calls Tryz.prog 19 #[v] w (GivesSB (showS L) w) := by
  have HL := Lib.hid h
  have HS := Lib.hid hs
  clear hs
  obtain ⟨A, c, rfl, _⟩ := h
  go_enter Tryz.func19, Tryz.ntmps19
  go_wp2_with fail
  refine (rright4_any _ L _ HL.out hl HS.out).mono ?_
  cases hr : rightS L with
  | false =>
    have HN := Lib.hid (showS_no hr)
    rintro e w1 ⟨rfl, hb1⟩
    go_wp2_with fail
    go_ret
    exact givesSB_of (l' := []) rfl HN.out.symm hb1
  | true =>
    obtain ⟨b, hb, g1, g2, g3, g4, g5⟩ := rightS_some hr
    have HN : Hid (showS L = linesB [] b) := Lib.hid (by rw [← hb]; exact showS_right g1.1 (by rw [hb]; exact hr))
    rintro e w1 ⟨rfl, hb1⟩
    have HB1 := Lib.hid hb1
    have HR1 : Hid (ReadSt w1 (.slice A L.length c) b.flat) := Lib.hid (by rw [hb]; exact HL.out.on hb1)
    have HG := Lib.hid g1
    clear hb g1 g3 g4 g5 hb1
    go_wp2_with fail
    refine (rlines_all b.count b _ [] _ rfl HG.out g2 (by simp; omega) HR1.out).mono ?_
    rw [← HN.out]
    rintro e w2 ⟨rfl, hb2⟩
    go_wp2_with fail
    go_ret
    exact ⟨rfl, below_then HB1.out hb2⟩
end Go.Proofs.YtpeohfgadnfnpaaGreatDoor
/-
  DERIVED. Layer 4: the walk of the law StmtTells: for all statements and every number it is true.
-/
namespace Go.Proofs.YtpeohfgadnfnpaaGreatDoor
open Go.RowKit

set_option maxRecDepth 100000 in
set_option maxHeartbeats 16000000 in
theorem tells4_any (A : Option Addr) (n c : Nat) (R : Nat → RawS) (A' : Option Addr) (n' c' : Nat) (R' : Nat → RawS) (kn : Int) (w : World) (hA : ArgS w A n R) (hA' : ArgS w A' n' R') (ht : Tabs w) :
    Calls Tryz.prog 4 #[.slice A n c, .slice A' n' c', .int .i64 kn] w (IsTrue w) := by
  have HA := Lib.hid hA
  have HA' := Lib.hid hA'
  have HT := Lib.hid ht
  have hll := rawS_len R (min n 50)
  have HSM := Lib.hid (rawS_small R (min n 50))
  have hll' := rawS_len R' (min n' 50)
  have HSM' := Lib.hid (rawS_small R' (min n' 50))
  clear hA hA' ht
  go_enter Tryz.func4, Tryz.ntmps4
  go_wp2_with fail
  refine (cutS_any A n c R _ HA.out).mono ?_
  generalize rawS R (min n 50) = L at *
  have hl50 : L.length ≤ 50 := by omega
  clear hll
  rintro e w1 ⟨v1, rfl, ho1, ⟨g1, cap1, rfl⟩, hb⟩
  have HB := Lib.hid hb
  have HO := Lib.hid ho1.read
  clear ho1 hb
  go_wp2_with fail
  refine (cutS_any A' n' c' R' _ (HA'.out.on HB.out)).mono ?_
  generalize rawS R' (min n' 50) = M at *
  have hm50 : M.length ≤ 50 := by omega
  clear hll'
  rintro e w2 ⟨v2, rfl, ho2, ⟨g2, cap2, rfl⟩, hb⟩
  replace HO := Lib.hid (HO.out.on hb)
  have HO' := Lib.hid ho2.read
  replace HB := Lib.hid (below_then HB.out hb)
  clear ho2 hb
  obtain ⟨rr, hrr⟩ : ∃ rr, rightS L = rr := ⟨_, rfl⟩
  obtain ⟨sh, hsh⟩ : ∃ sh, showS L = sh := ⟨_, rfl⟩
  obtain ⟨dp, hdp⟩ : ∃ dp, depthS L = dp := ⟨_, rfl⟩
  obtain ⟨hs, hhs⟩ : ∃ hs, hasL kn = hs := ⟨_, rfl⟩
  obtain ⟨sm, hsm⟩ : ∃ sm, sameSt false L M = sm := ⟨_, rfl⟩
  have HR := Lib.hid hrr
  have HS := Lib.hid hsh
  have HD := Lib.hid hdp
  have HH := Lib.hid hhs
  have HM := Lib.hid hsm
  clear hrr hsh hdp hhs hsm
  go_wp2_with fail
  refine (sright_any _ L _ HO.out HSM.out (HT.out.on HB.out)).mono ?_
  rw [HR.out]
  rintro e w3 ⟨rfl, hb⟩
  replace HO := Lib.hid (HO.out.on hb)
  replace HO' := Lib.hid (HO'.out.on hb)
  replace HB := Lib.hid (below_then HB.out hb)
  clear hb
  go_wp2_with fail
  refine (rright4_any _ L _ HO.out (by omega) HSM.out).mono ?_
  rw [HR.out]
  rintro e w4 ⟨rfl, hb⟩
  replace HO := Lib.hid (HO.out.on hb)
  replace HO' := Lib.hid (HO'.out.on hb)
  replace HB := Lib.hid (below_then HB.out hb)
  clear hb
  go_wp2_with fail
  refine (sshow_any _ L _ HO.out HSM.out (HT.out.on HB.out)).mono ?_
  rw [HS.out]
  rintro e w5 ⟨rfl, hb⟩
  replace HO := Lib.hid (HO.out.on hb)
  replace HO' := Lib.hid (HO'.out.on hb)
  replace HB := Lib.hid (below_then HB.out hb)
  clear hb
  go_wp2_with fail
  refine (rshow4_any _ L _ HO.out (by omega) HSM.out).mono ?_
  rw [HS.out]
  rintro e w6 ⟨rfl, hb⟩
  replace HO := Lib.hid (HO.out.on hb)
  replace HO' := Lib.hid (HO'.out.on hb)
  replace HB := Lib.hid (below_then HB.out hb)
  clear hb
  go_wp2_with fail
  refine (sdepth_any _ L _ HO.out HSM.out (HT.out.on HB.out)).mono ?_
  rw [HD.out]
  rintro e w7 ⟨rfl, hb⟩
  replace HO := Lib.hid (HO.out.on hb)
  replace HO' := Lib.hid (HO'.out.on hb)
  replace HB := Lib.hid (below_then HB.out hb)
  clear hb
  go_wp2_with fail
  refine (rdepth4_any _ L _ HO.out (by omega) HSM.out).mono ?_
  rw [HD.out]
  rintro e w8 ⟨rfl, hb⟩
  replace HO := Lib.hid (HO.out.on hb)
  replace HO' := Lib.hid (HO'.out.on hb)
  replace HB := Lib.hid (below_then HB.out hb)
  clear hb
  go_wp2_with fail
  refine (shas_any kn _ (HT.out.on HB.out)).mono ?_
  rw [HH.out]
  rintro e w9 ⟨rfl, hb⟩
  replace HO := Lib.hid (HO.out.on hb)
  replace HO' := Lib.hid (HO'.out.on hb)
  replace HB := Lib.hid (below_then HB.out hb)
  clear hb
  go_wp2_with fail
  refine (rhas_any kn _).mono ?_
  rw [HH.out]
  rintro e w10 ⟨rfl, hb⟩
  replace HO := Lib.hid (HO.out.on hb)
  replace HO' := Lib.hid (HO'.out.on hb)
  replace HB := Lib.hid (below_then HB.out hb)
  clear hb
  go_wp2_with fail
  refine (ssame_any _ _ L M _ HO.out HO'.out (by omega) HSM.out).mono ?_
  rw [HM.out]
  rintro e w11 ⟨rfl, hb⟩
  replace HO := Lib.hid (HO.out.on hb)
  replace HO' := Lib.hid (HO'.out.on hb)
  replace HB := Lib.hid (below_then HB.out hb)
  clear hb
  go_wp2_with fail
  refine (rsame4_any false _ _ L M _ HO.out HO'.out (by omega) HSM.out).mono ?_
  rw [HM.out]
  rintro e w12 ⟨rfl, hb⟩
  replace HB := Lib.hid (below_then HB.out hb)
  clear hb
  go_wp2_with fail
  refine (fixed_any _ (HT.out.on HB.out)).mono ?_
  rintro e w13 ⟨rfl, hb⟩
  go_wp2_with fail
  go_ret
  exact ⟨rfl, below_then HB.out hb⟩
end Go.Proofs.YtpeohfgadnfnpaaGreatDoor
