/-
  DERIVED. Layer 3: the contract of the reader that the laws take tokens from.
-/
import Derived.Test.YtpeohfgadnfnpaaGreatDoorQ09
import Derived.Test.YtpeohfgadnfnpaaGreatDoorQ35
import Derived.RegionTactic
namespace Go.Proofs.YtpeohfgadnfnpaaGreatDoor
open Go.RowKit

theorem inv_cut {l : List UInt8} {k j : Nat} {c : UInt8} {L : List Tok} {R : Found} {kd n : Int} {m : List UInt8} (hd : l.drop k = c :: l.drop (k + 1)) (hb : blkB c = false) (hr : isRem (l.drop k) = false) (hq : cutOf (l.drop k) = ⟨0, kd, m, n⟩) (hj : j = k + m.length) (hI : (scanL (l.drop k) k).pre L = R) :
    (scanL (l.drop j) j).pre (L ++ [⟨kd, m, n, k⟩]) = R := by
  have h := inv_tok hd hb hr (by rw [hq]) hI
  rw [hq] at h
  rw [hj]; exact h
theorem inv_err {l : List UInt8} {k : Nat} {c : UInt8} {L : List Tok} {R : Found} {e : Int} (hd : l.drop k = c :: l.drop (k + 1)) (hb : blkB c = false) (hr : isRem (l.drop k) = false) (hq : cutOf (l.drop k) = .no e) (he : e ≠ 0) (hI : (scanL (l.drop k) k).pre L = R) : R = .fail e k := by
  have h := inv_bad hd hb hr (by rw [hq]; exact he) hI
  rw [hq] at h; exact h
theorem while_take (p : UInt8 → Bool) (l : List UInt8) : l.take (l.takeWhile p).length = l.takeWhile p := by
  have h := takeWhile_prefix p l
  generalize l.takeWhile p = a at *
  generalize l.dropWhile p = b at *
  subst h
  rw [List.take_left]
theorem seg_is (s : ByteArray) (k j : Nat) (m : List UInt8) (hkj : k ≤ j) (hm : (s.data.toList.drop k).take (j - k) = m) : s.extract k j = ⟨m.toArray⟩ := by
  apply bytes_ext
  have := extract_mid s k (j - k)
  rw [show k + (j - k) = j from by omega] at this
  rw [this, hm]
theorem past_zero (s : ByteArray) (w : World) (hs : s.size ≤ 100000) : Calls Tryz.prog 40 #[.string s, .int .i64 0] w (PastIs s 0 w) := past_any s 0 w hs (Nat.zero_le _)
/-- Where a row that begins at k ends. -/
def EndsAt (p : UInt8 → Bool) (s : ByteArray) (k j : Nat) : Prop := k ≤ j ∧ j ≤ s.size ∧ ∀ i, k ≤ i → (hi : i < s.size) → i < j → p (s[i]'hi) = true
theorem EndsAt.start (p : UInt8 → Bool) (s : ByteArray) (k : Nat) (h : k ≤ s.size) : EndsAt p s k k := ⟨Nat.le_refl _, h, fun i h1 _ h2 => absurd h2 (by omega)⟩
theorem EndsAt.succ {p : UInt8 → Bool} {s : ByteArray} {k j : Nat} (h : EndsAt p s k j) (hj : j < s.size) (hp : p (s[j]'hj) = true) : EndsAt p s k (j + 1) :=
  ⟨by have := h.1; omega, by omega, fun i h1 hi h2 => by
    by_cases e : i = j
    · subst e; exact hp
    · exact h.2.2 i h1 hi (by omega)⟩
theorem EndsAt.len {p : UInt8 → Bool} {s : ByteArray} {k j : Nat} (h : EndsAt p s k j) (he : (h : j < s.size) → p (s[j]'h) = false) : ((s.data.toList.drop k).takeWhile p).length = j - k :=
  while_len p s k j h.1 h.2.1 (fun i h1 h2 => h.2.2 i h1 (by have := h.2.1; omega) h2) he
/-- A number as it is gathered, as long as it is not too great. -/
def NumI (v : Int) (n : Nat) : Prop := (v = (n : Int) ∧ n ≤ 4294967296) ∨ (4294967296 < v ∧ 4294967296 < n ∧ v ≤ 42949672969)
theorem seg_succ (s : ByteArray) (k j : Nat) (hkj : k ≤ j) (hj : j < s.size) : valN ((s.data.toList.drop k).take (j + 1 - k)) = valN ((s.data.toList.drop k).take (j - k)) * 10 + ((s[j]).toNat - 48) := by
  have e : (s.data.toList.drop k)[j - k]? = some s[j] := by
    rw [List.getElem?_drop, show k + (j - k) = j from by omega, List.getElem?_eq_getElem (by rw [len_data]; exact hj)]; rfl
  rw [show j + 1 - k = (j - k) + 1 from by omega, List.take_add_one, e]
  show valN (_ ++ [s[j]]) = _
  rw [valN_snoc]
theorem dig_range {c : UInt8} (h : digB c = true) : 48 ≤ c.toNat ∧ c.toNat ≤ 57 := by unfold digB at h; simpa using h
theorem empty_own' (w : World) : OwnT (w.alloc (.cells #[] 52)) w.heap.size (.slice (some ⟨w.heap.size, 0, none⟩) 0 0) [] :=
  ⟨rfl, .inr ⟨w.heap.size, 0, #[], rfl, Nat.le_refl _, heap_alloc_new w _, by decide, by decide, rfl, rfl⟩⟩

set_option maxRecDepth 100000 in
set_option maxHeartbeats 16000000 in
theorem rscan_any (s : ByteArray) (w : World) (hs : s.size ≤ 4000) : Calls Tryz.prog 25 #[.string s] w (GivesF (scanL s.data.toList 0) w) := by
  obtain ⟨i0, hi, hz0, hz1, hz2⟩ := info_parts info31
  have HZ := Lib.hid (show Tryz.prog.info? 52 = some i0 ∧ i0.zero = some (.agg #[.int .i64 0, .string ⟨#[]⟩, .int .i64 0, .int .i64 0]) ∧ i0.size = 4 ∧ i0.bytes = 40 from ⟨hi, hz0, hz1, hz2⟩)
  clear hi hz0 hz1 hz2
  have hs1 : decide ((4000 : Int) < (s.size : Int)) = false := by simp; omega
  go_enter Tryz.func25, Tryz.ntmps25
  go_wp2_with fail
  refine (past_zero s _ (by omega)).mono ?_
  rintro e w' ⟨k0, rfl, rfl, _, hk0, hI0, hst0⟩
  have HI0 := Lib.hid hI0
  have HST0 := Lib.hid hst0
  clear hI0 hst0
  go_wp2_with fail
  go_loopw [5, 6] (fun v i wr => ∃ (k : Nat) (L : List Tok), k ≤ s.size ∧ i = .int .i64 k ∧ OwnT wr w.heap.size v L ∧ Below w.heap.size w wr ∧ L.length ≤ k ∧ (scanL (s.data.toList.drop k) k).pre L = scanL s.data.toList 0 ∧ ((h : k < s.size) → blkB (s[k]'h) = false ∧ isRem (s.data.toList.drop k) = false)) (fun _ i _ => s.size - (intOf i).toNat)
  case atStart => exact ⟨k0, [], hk0, rfl, empty_own' w, (Below.refl _ _).alloc (Nat.le_refl _) _, Nat.zero_le _, by rw [HI0.out, List.drop_zero]; exact pre_nil _ (scanL_form _ _).1 (scanL_form _ _).2, HST0.out⟩
  case round =>
    obtain ⟨k, L, hk, rfl, hown, hbel, hlen, hinv, hst⟩ := hrel
    obtain ⟨wo, hwo⟩ : ∃ x : World, x = wr := ⟨_, rfl⟩
    subst hwo
    have HI := Lib.hid hinv
    have HO := Lib.hid hown
    have HB := Lib.hid hbel
    have HST := Lib.hid hst
    clear hinv hown hbel hst HI0 HST0
    by_cases hlt : k < s.size
    · have HD := Lib.hid (drop_at s k hlt)
      have Hb := Lib.hid (HST.out hlt).1
      have Hr := Lib.hid (HST.out hlt).2
      clear HST
      cases h1 : letB (s[k]'hlt) with
      | true =>
        have H1 := Lib.hid h1
        clear h1
        go_wp2_with fail
        refine (rletter_any _ _).mono ?_
        rw [H1.out]
        rintro e w' ⟨rfl, hw'⟩
        subst hw'
        go_wp2_with fail
        go_loop [7] (fun i => ∃ j : Nat, i = .int .i64 j ∧ EndsAt wrdB s k j) (fun i => s.size - (intOf i).toNat)
        case atStart => exact ⟨k, rfl, EndsAt.start _ _ _ hk⟩
        case round =>
          obtain ⟨j, rfl, ha⟩ := hrel
          have HA := Lib.hid ha
          have hj2 := ha.2.1
          clear ha
          by_cases hjl : j < s.size
          · cases h2 : letB (s[j]'hjl) with
            | true =>
              have HS := Lib.hid (HA.out.succ hjl (wrd_let h2))
              have H2 := Lib.hid h2
              clear h2
              go_wp2_with fail
              refine (rletter_any _ _).mono ?_
              rw [H2.out]
              rintro e w' ⟨rfl, hw'⟩
              subst hw'
              go_wp2_with fail
              go_round
              case rel => exact ⟨j + 1, by go_num, HS.out⟩
              case measure => simp [intOf]; omega
            | false =>
              cases h3 : digB (s[j]'hjl) with
              | true =>
                have HS := Lib.hid (HA.out.succ hjl ((wrd_not h2).trans h3))
                have H2 := Lib.hid h2
                have H3 := Lib.hid h3
                clear h2 h3
                go_wp2_with fail
                refine (rletter_any _ _).mono ?_
                rw [H2.out]
                rintro e w' ⟨rfl, hw'⟩
                subst hw'
                go_wp2_with fail
                refine (rdigit_any _ _).mono ?_
                rw [H3.out]
                rintro e w' ⟨rfl, hw'⟩
                subst hw'
                go_wp2_with fail
                go_round
                case rel => exact ⟨j + 1, by go_num, HS.out⟩
                case measure => simp [intOf]; omega
              | false =>
                have HN : Hid (wrdB (s[j]'hjl) = false) := Lib.hid ((wrd_not h2).trans h3)
                have H2 := Lib.hid h2
                have H3 := Lib.hid h3
                clear h2 h3
                go_upto_region 11 with (fail)
                refine (rletter_any _ _).mono ?_
                rw [H2.out]
                rintro e w' ⟨rfl, hw'⟩
                subst hw'
                go_upto_region 11 with (fail)
                refine (rdigit_any _ _).mono ?_
                rw [H3.out]
                rintro e w' ⟨rfl, hw'⟩
                subst hw'
                go_upto_region 11 with (fail)
                have HL := Lib.hid (HA.out.len (fun _ => HN.out))
                have hkj := HA.out.1
                have hjs := HA.out.2.1
                have HX : Hid (s.extract k j = ⟨((s.data.toList.drop k).takeWhile wrdB).toArray⟩) := Lib.hid (seg_is s k j _ hkj (by rw [← HL.out]; exact while_take _ _))
                have HC : Hid (cutOf (s.data.toList.drop k) = wordCut (s.data.toList.drop k)) := Lib.hid (by have h1 := H1.out; rw [HD.out]; exact cutOf_word _ h1)
                by_cases h16 : 16 < j - k
                · have HQ : Hid (cutOf (s.data.toList.drop k) = .no 2) := Lib.hid (by rw [HC.out]; unfold wordCut; rw [HL.out, if_pos h16])
                  have h17 : (16 : Int) < (j : Int) - (k : Int) := by omega
                  have HS := Lib.hid (inv_err HD.out Hb.out Hr.out HQ.out (by decide) HI.out)
                  go_wp2_with fail
                  go_ret3
                  exact givesF_of rfl HS.out (own_nil _ _) (HB.out.alloc HB.out.size _)
                · have HQ : Hid (cutOf (s.data.toList.drop k) = ⟨0, 1, (s.data.toList.drop k).takeWhile wrdB, 0⟩) := Lib.hid (by rw [HC.out]; unfold wordCut; rw [HL.out, if_neg h16])
                  have h17 : ¬ (16 : Int) < (j : Int) - (k : Int) := by omega
                  have HJ : Hid (j = k + ((s.data.toList.drop k).takeWhile wrdB).length) := Lib.hid (by rw [HL.out]; omega)
                  have hm0 : 1 ≤ ((s.data.toList.drop k).takeWhile wrdB).length := by have h1 := H1.out; rw [HD.out, word_head _ h1]; simp
                  have hjk : k < j := by have := HJ.out; omega
                  have HEX := HX
                  generalize (s.data.toList.drop k).takeWhile wrdB = m at *
                  clear HX HC h16
                  go_upto_region 25 with (fail)
                  change Code.wp _ _ _ _ (wo.alloc (.cells #[.int .i64 1, .string ⟨#[]⟩, .int .i64 0, .int .i64 k] 52))
                  have BX := Lib.hid (Box.new wo (.int .i64 1) (.string ⟨#[]⟩) (.int .i64 0) (.int .i64 k))
                  have HBx := Lib.hid ((Below.refl wo.heap.size wo).alloc (Nat.le_refl _) (.cells #[.int .i64 1, .string ⟨#[]⟩, .int .i64 0, .int .i64 k] 52))
                  generalize wo.alloc (.cells #[.int .i64 1, .string ⟨#[]⟩, .int .i64 0, .int .i64 k] 52) = Wx at *
                  obtain ⟨x0, x1, x2, x3⟩ := BX.out.cells
                  have f1 := BX.out.free 1
                  go_upto_region 26 with (fail)
                  rw [HEX.out]
                  change Code.wp _ _ _ _ (Wx.setCell ⟨wo.heap.size, 1, none⟩ (.string ⟨m.toArray⟩))
                  have BX2 := Lib.hid (BX.out.set1 (.string ⟨m.toArray⟩))
                  have HB2 := Lib.hid (HBx.out.setCell (p := ⟨wo.heap.size, 1, none⟩) (Nat.le_refl _) (.string ⟨m.toArray⟩))
                  clear x0 x1 x2 x3 f1
                  generalize Wx.setCell ⟨wo.heap.size, 1, none⟩ (.string ⟨m.toArray⟩) = W2 at *
                  obtain ⟨x0, x1, x2, x3⟩ := BX2.out.cells
                  have hszx := BX2.out.lt
                  go_wp2_with (at_builtin; refine wpList_append_own _ rfl (.tmp 99) (.tmp 101) 22 rfl w.heap.size 52 i0 (.agg #[.int .i64 0, .string ⟨#[]⟩, .int .i64 0, .int .i64 0]) 4 40 Tryz.underlying22 HZ.out.1 HZ.out.2.1 HZ.out.2.2.1 HZ.out.2.2.2 rfl (by decide) _ L.length (cellsT L) rfl ?q4O ⟨W2.heap.size, 0, none⟩ 1 1 (tokCells ⟨1, m, 0, k⟩) rfl rfl ?q41 ?q42 ?q43 ?q44 ?q45 ?_)
                  case q4O => exact own_on HO.out (HB2.out.alloc (by omega) _)
                  case q41 => first | exact tok_cells ⟨1, m, 0, k⟩ | exact fun j u h => h
                  case q42 => exact tok_one _
                  case q43 => unfold maxLen; omega
                  case q44 => omega
                  case q45 => have := HB.out.size; simp; omega
                  intro v' w3 hown' hgrow _
                  have HR := Lib.hid (after_append (t := ⟨1, m, 0, k⟩) HO.out HB.out HB2.out hszx hown' hgrow)
                  clear hown' hgrow x0 x1 x2 x3 hszx
                  go_wp2_with fail
                  refine (past_any s j _ (by omega) (by omega)).mono ?_
                  rintro e w' ⟨k2, rfl, rfl, hk2a, hk2, hI2, hst2⟩
                  have HI2 := Lib.hid hI2
                  have HST2 := Lib.hid hst2
                  clear hI2 hst2
                  go_wp2_with fail
                  go_roundw
                  case rel => exact ⟨k2, _, hk2, rfl, HR.out.1, HR.out.2.1, by simp; omega, by rw [HI2.out]; exact inv_cut HD.out Hb.out Hr.out HQ.out HJ.out HI.out, HST2.out⟩
                  case measure => simp [intOf]; omega
          · go_upto_region 11 with (fail)
            have HL := Lib.hid (HA.out.len (fun h => absurd h hjl))
            have hkj := HA.out.1
            have hjs := HA.out.2.1
            have HX : Hid (s.extract k j = ⟨((s.data.toList.drop k).takeWhile wrdB).toArray⟩) := Lib.hid (seg_is s k j _ hkj (by rw [← HL.out]; exact while_take _ _))
            have HC : Hid (cutOf (s.data.toList.drop k) = wordCut (s.data.toList.drop k)) := Lib.hid (by have h1 := H1.out; rw [HD.out]; exact cutOf_word _ h1)
            by_cases h16 : 16 < j - k
            · have HQ : Hid (cutOf (s.data.toList.drop k) = .no 2) := Lib.hid (by rw [HC.out]; unfold wordCut; rw [HL.out, if_pos h16])
              have h17 : (16 : Int) < (j : Int) - (k : Int) := by omega
              have HS := Lib.hid (inv_err HD.out Hb.out Hr.out HQ.out (by decide) HI.out)
              go_wp2_with fail
              go_ret3
              exact givesF_of rfl HS.out (own_nil _ _) (HB.out.alloc HB.out.size _)
            · have HQ : Hid (cutOf (s.data.toList.drop k) = ⟨0, 1, (s.data.toList.drop k).takeWhile wrdB, 0⟩) := Lib.hid (by rw [HC.out]; unfold wordCut; rw [HL.out, if_neg h16])
              have h17 : ¬ (16 : Int) < (j : Int) - (k : Int) := by omega
              have HJ : Hid (j = k + ((s.data.toList.drop k).takeWhile wrdB).length) := Lib.hid (by rw [HL.out]; omega)
              have hm0 : 1 ≤ ((s.data.toList.drop k).takeWhile wrdB).length := by have h1 := H1.out; rw [HD.out, word_head _ h1]; simp
              have hjk : k < j := by have := HJ.out; omega
              have HEX := HX
              generalize (s.data.toList.drop k).takeWhile wrdB = m at *
              clear HX HC h16
              go_upto_region 25 with (fail)
              change Code.wp _ _ _ _ (wo.alloc (.cells #[.int .i64 1, .string ⟨#[]⟩, .int .i64 0, .int .i64 k] 52))
              have BX := Lib.hid (Box.new wo (.int .i64 1) (.string ⟨#[]⟩) (.int .i64 0) (.int .i64 k))
              have HBx := Lib.hid ((Below.refl wo.heap.size wo).alloc (Nat.le_refl _) (.cells #[.int .i64 1, .string ⟨#[]⟩, .int .i64 0, .int .i64 k] 52))
              generalize wo.alloc (.cells #[.int .i64 1, .string ⟨#[]⟩, .int .i64 0, .int .i64 k] 52) = Wx at *
              obtain ⟨x0, x1, x2, x3⟩ := BX.out.cells
              have f1 := BX.out.free 1
              go_upto_region 26 with (fail)
              rw [HEX.out]
              change Code.wp _ _ _ _ (Wx.setCell ⟨wo.heap.size, 1, none⟩ (.string ⟨m.toArray⟩))
              have BX2 := Lib.hid (BX.out.set1 (.string ⟨m.toArray⟩))
              have HB2 := Lib.hid (HBx.out.setCell (p := ⟨wo.heap.size, 1, none⟩) (Nat.le_refl _) (.string ⟨m.toArray⟩))
              clear x0 x1 x2 x3 f1
              generalize Wx.setCell ⟨wo.heap.size, 1, none⟩ (.string ⟨m.toArray⟩) = W2 at *
              obtain ⟨x0, x1, x2, x3⟩ := BX2.out.cells
              have hszx := BX2.out.lt
              go_wp2_with (at_builtin; refine wpList_append_own _ rfl (.tmp 99) (.tmp 101) 22 rfl w.heap.size 52 i0 (.agg #[.int .i64 0, .string ⟨#[]⟩, .int .i64 0, .int .i64 0]) 4 40 Tryz.underlying22 HZ.out.1 HZ.out.2.1 HZ.out.2.2.1 HZ.out.2.2.2 rfl (by decide) _ L.length (cellsT L) rfl ?q5O ⟨W2.heap.size, 0, none⟩ 1 1 (tokCells ⟨1, m, 0, k⟩) rfl rfl ?q51 ?q52 ?q53 ?q54 ?q55 ?_)
              case q5O => exact own_on HO.out (HB2.out.alloc (by omega) _)
              case q51 => first | exact tok_cells ⟨1, m, 0, k⟩ | exact fun j u h => h
              case q52 => exact tok_one _
              case q53 => unfold maxLen; omega
              case q54 => omega
              case q55 => have := HB.out.size; simp; omega
              intro v' w3 hown' hgrow _
              have HR := Lib.hid (after_append (t := ⟨1, m, 0, k⟩) HO.out HB.out HB2.out hszx hown' hgrow)
              clear hown' hgrow x0 x1 x2 x3 hszx
              go_wp2_with fail
              refine (past_any s j _ (by omega) (by omega)).mono ?_
              rintro e w' ⟨k2, rfl, rfl, hk2a, hk2, hI2, hst2⟩
              have HI2 := Lib.hid hI2
              have HST2 := Lib.hid hst2
              clear hI2 hst2
              go_wp2_with fail
              go_roundw
              case rel => exact ⟨k2, _, hk2, rfl, HR.out.1, HR.out.2.1, by simp; omega, by rw [HI2.out]; exact inv_cut HD.out Hb.out Hr.out HQ.out HJ.out HI.out, HST2.out⟩
              case measure => simp [intOf]; omega
      | false =>
        cases h2 : digB (s[k]'hlt) with
        | true =>
          have H1 := Lib.hid h1
          have H2 := Lib.hid h2
          clear h1 h2
          go_wp2_with fail
          refine (rletter_any _ _).mono ?_
          rw [H1.out]
          rintro e w' ⟨rfl, hw'⟩
          subst hw'
          go_wp2_with fail
          refine (rdigit_any _ _).mono ?_
          rw [H2.out]
          rintro e w' ⟨rfl, hw'⟩
          subst hw'
          go_wp2_with fail
          go_loopw [7] (fun i wq => ∃ (j : Nat) (v : Int), i = .int .i64 j ∧ EndsAt digB s k j ∧ Box wq wo.heap.size (.int .i64 2) (.string ⟨#[]⟩) (.int .i64 v) (.int .i64 k) ∧ Below wo.heap.size wo wq ∧ NumI v (valN ((s.data.toList.drop k).take (j - k)))) (fun i _ => s.size - (intOf i).toNat)
          case atStart => exact ⟨k, 0, rfl, EndsAt.start _ _ _ hk, Box.new wo _ _ _ _, (Below.refl _ _).alloc (Nat.le_refl _) _, by rw [Nat.sub_self, List.take_zero]; exact .inl ⟨rfl, by decide⟩⟩
          case round =>
            obtain ⟨j, v, rfl, ha, hbx, hbw, hnum⟩ := hrel
            have HA := Lib.hid ha
            have HX := Lib.hid hbx
            have HY := Lib.hid hbw
            have HN := Lib.hid hnum
            have hj2 := ha.2.1
            have hj1 := ha.1
            obtain ⟨x0, x1, x2, x3⟩ := hbx.cells
            have f2 := hbx.free 2
            have hlb := hbx.lt
            clear ha hbx hbw hnum
            by_cases hjl : j < s.size
            · cases h3 : digB (s[j]'hjl) with
              | true =>
                have HS := Lib.hid (HA.out.succ hjl h3)
                have HV := Lib.hid (seg_succ s k j hj1 hjl)
                obtain ⟨d1, d2⟩ := dig_range h3
                have H3 := Lib.hid h3
                clear h3
                rcases HN.out with ⟨hv, hv2⟩ | ⟨hv, hv2, hv3⟩
                · generalize hnn : valN ((s.data.toList.drop k).take (j - k)) = nn at *
                  have HNN := Lib.hid hnn
                  clear hnn
                  subst hv
                  go_wp2_with fail
                  refine (rdigit_any _ _).mono ?_
                  rw [H3.out]
                  rintro e w' ⟨rfl, hw'⟩
                  subst hw'
                  go_wp2_with fail
                  have z1 : IntKind.i64.wrap (10 * (nn : Int)) = 10 * (nn : Int) := IntWalk.i64_in _ (by omega)
                  have z2 : IntKind.i64.wrap (10 * (nn : Int) + (((s[j]'hjl).toNat : Int) - 48)) = 10 * (nn : Int) + (((s[j]'hjl).toNat : Int) - 48) := IntWalk.i64_in _ (by omega)
                  go_region
                  clear z1 z2
                  have HV2 : Hid (NumI (10 * (nn : Int) + (((s[j]'hjl).toNat : Int) - 48)) (valN ((s.data.toList.drop k).take (j + 1 - k)))) := Lib.hid (by
                    rw [HV.out]
                    by_cases hh : nn * 10 + ((s[j]'hjl).toNat - 48) ≤ 4294967296
                    · exact .inl ⟨by omega, hh⟩
                    · exact .inr ⟨by omega, by omega, by omega⟩)
                  generalize 10 * (nn : Int) + (((s[j]'hjl).toNat : Int) - 48) = v2 at *
                  go_wp2_with fail
                  go_roundw
                  case rel => exact ⟨j + 1, v2, by go_num, HS.out, HX.out.set2 _, (HY.out.setCell (Nat.le_refl _) _).drew, HV2.out⟩
                  case measure => simp [intOf]; omega
                · have hgt : ¬ v ≤ 4294967296 := by omega
                  go_wp2_with fail
                  refine (rdigit_any _ _).mono ?_
                  rw [H3.out]
                  rintro e w' ⟨rfl, hw'⟩
                  subst hw'
                  go_wp2_with fail
                  go_roundw
                  case rel => exact ⟨j + 1, v, by go_num, HS.out, HX.out, HY.out, by rw [HV.out]; exact .inr ⟨hv, by omega, hv3⟩⟩
                  case measure => simp [intOf]; omega
              | false =>
                have H3 := Lib.hid h3
                clear h3
                go_upto_region 19 with (fail)
                refine (rdigit_any _ _).mono ?_
                rw [H3.out]
                rintro e w' ⟨rfl, hw'⟩
                subst hw'
                go_upto_region 19 with (fail)
                have HL := Lib.hid (HA.out.len (fun _ => H3.out))
                have HT : Hid ((s.data.toList.drop k).take (j - k) = (s.data.toList.drop k).takeWhile digB) := Lib.hid (by rw [← HL.out]; exact while_take _ _)
                have HEX : Hid (s.extract k j = ⟨((s.data.toList.drop k).takeWhile digB).toArray⟩) := Lib.hid (seg_is s k j _ hj1 HT.out)
                have HC : Hid (cutOf (s.data.toList.drop k) = numCut (s.data.toList.drop k)) := Lib.hid (by have h1 := H1.out; have h2 := H2.out; rw [HD.out]; exact cutOf_num _ h1 h2)
                have hN := HN.out
                rw [HT.out] at hN
                rcases hN with ⟨hv, hv2⟩ | ⟨hv, hv2, hv3⟩
                · have HQ : Hid (cutOf (s.data.toList.drop k) = ⟨0, 2, (s.data.toList.drop k).takeWhile digB, v⟩) := Lib.hid (by rw [HC.out]; unfold numCut; rw [if_neg (by omega), ← hv])
                  have h17 : ¬ (4294967296 : Int) < v := by omega
                  have HJ : Hid (j = k + ((s.data.toList.drop k).takeWhile digB).length) := Lib.hid (by rw [HL.out]; omega)
                  have hm0 : 1 ≤ ((s.data.toList.drop k).takeWhile digB).length := by have h1 := H2.out; rw [HD.out, num_head _ h1]; simp
                  have hjk : k < j := by have := HJ.out; omega
                  clear hv hv2 HT
                  generalize (s.data.toList.drop k).takeWhile digB = m at *
                  clear HC
                  go_upto_region 25 with (fail)
                  have BX := HX
                  have HBx := HY
                  clear x0 x1 x2 x3 f2 HX HY
                  generalize wr = Wx at *
                  obtain ⟨x0, x1, x2, x3⟩ := BX.out.cells
                  have f1 := BX.out.free 1
                  go_upto_region 26 with (fail)
                  rw [HEX.out]
                  change Code.wp _ _ _ _ (Wx.setCell ⟨wo.heap.size, 1, none⟩ (.string ⟨m.toArray⟩))
                  have BX2 := Lib.hid (BX.out.set1 (.string ⟨m.toArray⟩))
                  have HB2 := Lib.hid (HBx.out.setCell (p := ⟨wo.heap.size, 1, none⟩) (Nat.le_refl _) (.string ⟨m.toArray⟩))
                  clear x0 x1 x2 x3 f1
                  generalize Wx.setCell ⟨wo.heap.size, 1, none⟩ (.string ⟨m.toArray⟩) = W2 at *
                  obtain ⟨x0, x1, x2, x3⟩ := BX2.out.cells
                  have hszx := BX2.out.lt
                  go_wp2_with (at_builtin; refine wpList_append_own _ rfl (.tmp 99) (.tmp 101) 22 rfl w.heap.size 52 i0 (.agg #[.int .i64 0, .string ⟨#[]⟩, .int .i64 0, .int .i64 0]) 4 40 Tryz.underlying22 HZ.out.1 HZ.out.2.1 HZ.out.2.2.1 HZ.out.2.2.2 rfl (by decide) _ L.length (cellsT L) rfl ?q1O ⟨W2.heap.size, 0, none⟩ 1 1 (tokCells ⟨2, m, v, k⟩) rfl rfl ?q11 ?q12 ?q13 ?q14 ?q15 ?_)
                  case q1O => exact own_on HO.out (HB2.out.alloc (by omega) _)
                  case q11 => first | exact tok_cells ⟨2, m, v, k⟩ | exact fun j u h => h
                  case q12 => exact tok_one _
                  case q13 => unfold maxLen; omega
                  case q14 => omega
                  case q15 => have := HB.out.size; simp; omega
                  intro v' w3 hown' hgrow _
                  have HR := Lib.hid (after_append (t := ⟨2, m, v, k⟩) HO.out HB.out HB2.out hszx hown' hgrow)
                  clear hown' hgrow x0 x1 x2 x3 hszx
                  go_wp2_with fail
                  refine (past_any s j _ (by omega) (by omega)).mono ?_
                  rintro e w' ⟨k2, rfl, rfl, hk2a, hk2, hI2, hst2⟩
                  have HI2 := Lib.hid hI2
                  have HST2 := Lib.hid hst2
                  clear hI2 hst2
                  go_wp2_with fail
                  go_roundw
                  case rel => exact ⟨k2, _, hk2, rfl, HR.out.1, HR.out.2.1, by simp; omega, by rw [HI2.out]; exact inv_cut HD.out Hb.out Hr.out HQ.out HJ.out HI.out, HST2.out⟩
                  case measure => simp [intOf]; omega
                · have HQ : Hid (cutOf (s.data.toList.drop k) = .no 4) := Lib.hid (by rw [HC.out]; unfold numCut; rw [if_pos hv2])
                  have HS := Lib.hid (inv_err HD.out Hb.out Hr.out HQ.out (by decide) HI.out)
                  clear hv2 hv3 HT
                  go_wp2_with fail
                  go_ret3
                  exact givesF_of rfl HS.out (own_nil _ _) (HB.out.trans (HY.out.mono HB.out.size))
            · go_upto_region 19 with (fail)
              have HL := Lib.hid (HA.out.len (fun h => absurd h hjl))
              have HT : Hid ((s.data.toList.drop k).take (j - k) = (s.data.toList.drop k).takeWhile digB) := Lib.hid (by rw [← HL.out]; exact while_take _ _)
              have HEX : Hid (s.extract k j = ⟨((s.data.toList.drop k).takeWhile digB).toArray⟩) := Lib.hid (seg_is s k j _ hj1 HT.out)
              have HC : Hid (cutOf (s.data.toList.drop k) = numCut (s.data.toList.drop k)) := Lib.hid (by have h1 := H1.out; have h2 := H2.out; rw [HD.out]; exact cutOf_num _ h1 h2)
              have hN := HN.out
              rw [HT.out] at hN
              rcases hN with ⟨hv, hv2⟩ | ⟨hv, hv2, hv3⟩
              · have HQ : Hid (cutOf (s.data.toList.drop k) = ⟨0, 2, (s.data.toList.drop k).takeWhile digB, v⟩) := Lib.hid (by rw [HC.out]; unfold numCut; rw [if_neg (by omega), ← hv])
                have h17 : ¬ (4294967296 : Int) < v := by omega
                have HJ : Hid (j = k + ((s.data.toList.drop k).takeWhile digB).length) := Lib.hid (by rw [HL.out]; omega)
                have hm0 : 1 ≤ ((s.data.toList.drop k).takeWhile digB).length := by have h1 := H2.out; rw [HD.out, num_head _ h1]; simp
                have hjk : k < j := by have := HJ.out; omega
                clear hv hv2 HT
                generalize (s.data.toList.drop k).takeWhile digB = m at *
                clear HC
                go_upto_region 25 with (fail)
                have BX := HX
                have HBx := HY
                clear x0 x1 x2 x3 f2 HX HY
                generalize wr = Wx at *
                obtain ⟨x0, x1, x2, x3⟩ := BX.out.cells
                have f1 := BX.out.free 1
                go_upto_region 26 with (fail)
                rw [HEX.out]
                change Code.wp _ _ _ _ (Wx.setCell ⟨wo.heap.size, 1, none⟩ (.string ⟨m.toArray⟩))
                have BX2 := Lib.hid (BX.out.set1 (.string ⟨m.toArray⟩))
                have HB2 := Lib.hid (HBx.out.setCell (p := ⟨wo.heap.size, 1, none⟩) (Nat.le_refl _) (.string ⟨m.toArray⟩))
                clear x0 x1 x2 x3 f1
                generalize Wx.setCell ⟨wo.heap.size, 1, none⟩ (.string ⟨m.toArray⟩) = W2 at *
                obtain ⟨x0, x1, x2, x3⟩ := BX2.out.cells
                have hszx := BX2.out.lt
                go_wp2_with (at_builtin; refine wpList_append_own _ rfl (.tmp 99) (.tmp 101) 22 rfl w.heap.size 52 i0 (.agg #[.int .i64 0, .string ⟨#[]⟩, .int .i64 0, .int .i64 0]) 4 40 Tryz.underlying22 HZ.out.1 HZ.out.2.1 HZ.out.2.2.1 HZ.out.2.2.2 rfl (by decide) _ L.length (cellsT L) rfl ?q2O ⟨W2.heap.size, 0, none⟩ 1 1 (tokCells ⟨2, m, v, k⟩) rfl rfl ?q21 ?q22 ?q23 ?q24 ?q25 ?_)
                case q2O => exact own_on HO.out (HB2.out.alloc (by omega) _)
                case q21 => first | exact tok_cells ⟨2, m, v, k⟩ | exact fun j u h => h
                case q22 => exact tok_one _
                case q23 => unfold maxLen; omega
                case q24 => omega
                case q25 => have := HB.out.size; simp; omega
                intro v' w3 hown' hgrow _
                have HR := Lib.hid (after_append (t := ⟨2, m, v, k⟩) HO.out HB.out HB2.out hszx hown' hgrow)
                clear hown' hgrow x0 x1 x2 x3 hszx
                go_wp2_with fail
                refine (past_any s j _ (by omega) (by omega)).mono ?_
                rintro e w' ⟨k2, rfl, rfl, hk2a, hk2, hI2, hst2⟩
                have HI2 := Lib.hid hI2
                have HST2 := Lib.hid hst2
                clear hI2 hst2
                go_wp2_with fail
                go_roundw
                case rel => exact ⟨k2, _, hk2, rfl, HR.out.1, HR.out.2.1, by simp; omega, by rw [HI2.out]; exact inv_cut HD.out Hb.out Hr.out HQ.out HJ.out HI.out, HST2.out⟩
                case measure => simp [intOf]; omega
              · have HQ : Hid (cutOf (s.data.toList.drop k) = .no 4) := Lib.hid (by rw [HC.out]; unfold numCut; rw [if_pos hv2])
                have HS := Lib.hid (inv_err HD.out Hb.out Hr.out HQ.out (by decide) HI.out)
                clear hv2 hv3 HT
                go_wp2_with fail
                go_ret3
                exact givesF_of rfl HS.out (own_nil _ _) (HB.out.trans (HY.out.mono HB.out.size))
        | false =>
          have H1 := Lib.hid h1
          have H2 := Lib.hid h2
          clear h1 h2
          have HC : Hid (cutOf (s.data.toList.drop k) = signCut (s.data.toList.drop k)) := Lib.hid (by have h1 := H1.out; have h2 := H2.out; rw [HD.out]; exact cutOf_sign _ h1 h2)
          go_wp2_with fail
          refine (rletter_any _ _).mono ?_
          rw [H1.out]
          rintro e w' ⟨rfl, hw'⟩
          subst hw'
          go_wp2_with fail
          refine (rdigit_any _ _).mono ?_
          rw [H2.out]
          rintro e w' ⟨rfl, hw'⟩
          subst hw'
          go_wp2_with fail
          refine (rsign_any s k _ (by omega) hlt).mono ?_
          cases hsg : signOf (s.data.toList.drop k) with
          | none =>
            rw [show signLen (s.data.toList.drop k) = 0 from by unfold signLen; rw [hsg]]
            have HQ : Hid (cutOf (s.data.toList.drop k) = .no 3) := Lib.hid (by rw [HC.out]; unfold signCut; rw [hsg])
            have HS := Lib.hid (inv_err HD.out Hb.out Hr.out HQ.out (by decide) HI.out)
            clear hsg
            rintro e w1 ⟨rfl, hb⟩
            rw [show ((0 : Nat) : Int) = 0 from rfl]
            go_wp2_with fail
            go_ret3
            exact givesF_of rfl HS.out (own_nil _ _) (HB.out.trans ((below_box hb).mono HB.out.size))
          | some t =>
            rw [show signLen (s.data.toList.drop k) = t.length from by unfold signLen; rw [hsg]]
            have HQ : Hid (cutOf (s.data.toList.drop k) = ⟨0, 3, t, 0⟩) := Lib.hid (by rw [HC.out]; unfold signCut; rw [hsg])
            obtain ⟨hmem, hpre⟩ := signOf_some hsg
            obtain ⟨ht1, ht2⟩ := signTab_len hmem
            have hpl := hpre.length_le
            rw [List.length_drop, len_data] at hpl
            obtain ⟨j, hj⟩ : ∃ j, j = k + t.length := ⟨_, rfl⟩
            have HEX : Hid (s.extract k j = ⟨t.toArray⟩) := Lib.hid (seg_is s k j t (by omega) (by rw [hj, Nat.add_sub_cancel_left]; exact (List.prefix_iff_eq_take.1 hpre).symm))
            have HJ := Lib.hid hj
            have hjk : k < j := by omega
            have hjs : j ≤ s.size := by omega
            have HCAST : Hid ((k : Int) + (t.length : Int) = (j : Int)) := Lib.hid (by omega)
            clear hj
            have hne : (((k : Int) + (t.length : Int)) == (k : Int)) = false := beq_eq_false_iff_ne.2 (by omega)
            clear hsg hmem hpre HC
            rintro e w1 ⟨rfl, hb⟩
            have BX := Lib.hid ((Box.new wo (.int .i64 3) (.string ⟨#[]⟩) (.int .i64 0) (.int .i64 k)).on hb (by simp))
            have HBx := Lib.hid (below_box hb)
            clear hb
            generalize w1 = Wx at *
            go_upto_region 25 with (fail)
            rw [HCAST.out]
            obtain ⟨x0, x1, x2, x3⟩ := BX.out.cells
            have f1 := BX.out.free 1
            go_upto_region 26 with (fail)
            rw [HEX.out]
            change Code.wp _ _ _ _ (Wx.setCell ⟨wo.heap.size, 1, none⟩ (.string ⟨t.toArray⟩))
            have BX2 := Lib.hid (BX.out.set1 (.string ⟨t.toArray⟩))
            have HB2 := Lib.hid (HBx.out.setCell (p := ⟨wo.heap.size, 1, none⟩) (Nat.le_refl _) (.string ⟨t.toArray⟩))
            clear x0 x1 x2 x3 f1
            generalize Wx.setCell ⟨wo.heap.size, 1, none⟩ (.string ⟨t.toArray⟩) = W2 at *
            obtain ⟨x0, x1, x2, x3⟩ := BX2.out.cells
            have hszx := BX2.out.lt
            go_wp2_with (at_builtin; refine wpList_append_own _ rfl (.tmp 99) (.tmp 101) 22 rfl w.heap.size 52 i0 (.agg #[.int .i64 0, .string ⟨#[]⟩, .int .i64 0, .int .i64 0]) 4 40 Tryz.underlying22 HZ.out.1 HZ.out.2.1 HZ.out.2.2.1 HZ.out.2.2.2 rfl (by decide) _ L.length (cellsT L) rfl ?q3O ⟨W2.heap.size, 0, none⟩ 1 1 (tokCells ⟨3, t, 0, k⟩) rfl rfl ?q31 ?q32 ?q33 ?q34 ?q35 ?_)
            case q3O => exact own_on HO.out (HB2.out.alloc (by omega) _)
            case q31 => first | exact tok_cells ⟨3, t, 0, k⟩ | exact fun j u h => h
            case q32 => exact tok_one _
            case q33 => unfold maxLen; omega
            case q34 => omega
            case q35 => have := HB.out.size; simp; omega
            intro v' w3 hown' hgrow _
            have HR := Lib.hid (after_append (t := ⟨3, t, 0, k⟩) HO.out HB.out HB2.out hszx hown' hgrow)
            clear hown' hgrow x0 x1 x2 x3 hszx
            go_wp2_with fail
            refine (past_any s j _ (by omega) (by omega)).mono ?_
            rintro e w' ⟨k2, rfl, rfl, hk2a, hk2, hI2, hst2⟩
            have HI2 := Lib.hid hI2
            have HST2 := Lib.hid hst2
            clear hI2 hst2
            go_wp2_with fail
            go_roundw
            case rel => exact ⟨k2, _, hk2, rfl, HR.out.1, HR.out.2.1, by simp; omega, by rw [HI2.out]; exact inv_cut HD.out Hb.out Hr.out HQ.out HJ.out HI.out, HST2.out⟩
            case measure => simp [intOf]; omega
    · have HS := Lib.hid (inv_end (by rw [len_data]; omega) HI.out)
      clear HST
      go_wp2_with fail
      go_ret3
      exact givesF_of rfl HS.out HO.out HB.out
end Go.Proofs.YtpeohfgadnfnpaaGreatDoor
