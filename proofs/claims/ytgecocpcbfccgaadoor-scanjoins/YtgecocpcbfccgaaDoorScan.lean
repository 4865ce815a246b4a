/-
  DERIVED. Layer 2: the contract of scan.Scan: the tokens of any text.
-/
import Derived.Test.YtgecocpcbfccgaaDoorSign
import Derived.WalkMore
import Derived.Deep.Cut
namespace Go.Proofs.YtgecocpcbfccgaaDoor
open Go.RowKit

/-- The cells of a token, of tokens. -/
def tokCells (t : Tok) : List Value := [.int .i64 t.kind, .string ⟨t.text.toArray⟩, .int .i64 t.n, .int .i64 t.pl]
def cellsT (L : List Tok) : List Value := L.flatMap tokCells
theorem cellsT_snoc (L : List Tok) (t : Tok) : cellsT (L ++ [t]) = cellsT L ++ tokCells t := by simp [cellsT]
/-- A slice that the call made itself, and that holds just these tokens. -/
def OwnT (w : World) (B : Nat) (v : Value) (L : List Tok) : Prop := w.ownsRow B 31 4 v L.length (cellsT L)
/-- What a call comes back with that answers tokens, an error and a place. -/
def GivesF (f : Found) (w : World) (e : Ending) (w' : World) : Prop :=
  ∃ v, e = .returned (.tuple #[v, .int .i64 f.err, .int .i64 f.pl]) ∧ OwnT w' w.heap.size v f.toks ∧ Below w.heap.size w w'

theorem info31 : (Tryd.prog.info? 31).map (fun i => (i.zero, i.size, i.bytes)) = some (some (.agg #[.int .i64 0, .string ⟨#[]⟩, .int .i64 0, .int .i64 0]), 4, 40) := by kernel_rfl

theorem own_on {w w' : World} {B : Nat} {v : Value} {L : List Tok} (h : OwnT w B v L) (hb : Below w.heap.size w w') : OwnT w' B v L := by
  obtain ⟨h1, h2⟩ := h
  refine ⟨h1, ?_⟩
  rcases h2 with h2 | ⟨g, cap, cur, hv, hg, hh, r⟩
  · exact .inl h2
  · exact .inr ⟨g, cap, cur, hv, hg, (hb.block g (Array.getElem?_eq_some_iff.1 hh).1).trans hh, r⟩

/-! What a round does to what is still to be found. -/
theorem inv_blank {l : List UInt8} {k : Nat} {c : UInt8} {L : List Tok} {R : Found} (hd : l.drop k = c :: l.drop (k + 1)) (hb : blkB c = true) (hI : (scanL (l.drop k) k).pre L = R) : (scanL (l.drop (k + 1)) (k + 1)).pre L = R := by
  rw [hd, scanL_blank _ _ hb] at hI; exact hI
theorem inv_rem {l : List UInt8} {k : Nat} {c : UInt8} {L : List Tok} {R : Found} (hd : l.drop k = c :: l.drop (k + 1)) (hb : blkB c = false) (hr : isRem (l.drop k) = true) (hI : (scanL (l.drop k) k).pre L = R) :
    (scanL (l.drop (k + ((l.drop k).takeWhile linB).length)) (k + ((l.drop k).takeWhile linB).length)).pre L = R := by
  rw [← List.drop_drop]
  rw [hd] at *
  rw [scanL_rem _ _ hb hr] at hI; exact hI
theorem inv_tok {l : List UInt8} {k : Nat} {c : UInt8} {L : List Tok} {R : Found} (hd : l.drop k = c :: l.drop (k + 1)) (hb : blkB c = false) (hr : isRem (l.drop k) = false) (he : (cutOf (l.drop k)).err = 0) (hI : (scanL (l.drop k) k).pre L = R) :
    (scanL (l.drop (k + (cutOf (l.drop k)).text.length)) (k + (cutOf (l.drop k)).text.length)).pre (L ++ [⟨(cutOf (l.drop k)).kind, (cutOf (l.drop k)).text, (cutOf (l.drop k)).n, k⟩]) = R := by
  rw [← List.drop_drop]
  rw [hd] at *
  rw [scanL_tok _ _ hb hr he, pre_pre] at hI; exact hI
theorem inv_bad {l : List UInt8} {k : Nat} {c : UInt8} {L : List Tok} {R : Found} (hd : l.drop k = c :: l.drop (k + 1)) (hb : blkB c = false) (hr : isRem (l.drop k) = false) (he : (cutOf (l.drop k)).err ≠ 0) (hI : (scanL (l.drop k) k).pre L = R) :
    R = .fail (cutOf (l.drop k)).err k := by
  rw [hd] at *
  rw [scanL_bad _ _ hb hr he, pre_fail _ _ _ he] at hI; exact hI.symm
theorem inv_end {l : List UInt8} {k : Nat} {L : List Tok} {R : Found} (hd : l.length ≤ k) (hI : (scanL (l.drop k) k).pre L = R) : R = .fine L := by
  rw [List.drop_eq_nil_of_le hd, scanL_nil, pre_fine] at hI; simpa using hI.symm
theorem while_le (p : UInt8 → Bool) (l : List UInt8) : (l.takeWhile p).length ≤ l.length := (List.takeWhile_sublist p).length_le
/-- What is left of a text at a place. -/
theorem rest_at (s : ByteArray) (k : Nat) (h : k < s.size) : (s.extract k s.size).size = s.size - k ∧ ∃ h0 : 0 < (s.extract k s.size).size, (s.extract k s.size)[0] = s[k] := by
  have h1 : (s.extract k s.size).size = s.size - k := by simp
  refine ⟨h1, by omega, ?_⟩
  have := ByteArray.getElem_extract (b := s) (start := k) (stop := s.size) (i := 0) (by rw [h1]; omega)
  simpa using this
theorem hasPre (s p : ByteArray) (w : World) : Calls Tryd.prog 25 #[.string s, .string p] w (Tells (Lib.hasPrefix s.data.toList p.data.toList) w) :=
  (Tryd.strings_HasPrefix s p w).mono fun _ _ h => ⟨h.1, h.2.symm⟩
/-- A box of four cells that has been filled, and its last cell once more. -/
def boxW (w1 : World) (g : Nat) (a b c d e : Value) : World :=
  ((((w1.setCell ⟨g, 0, none⟩ a).setCell ⟨g, 1, none⟩ b).setCell ⟨g, 2, none⟩ c).setCell ⟨g, 3, none⟩ d).setCell ⟨g, 3, none⟩ e
theorem boxW_facts {wr w1 : World} {z0 z1 z2 z3 : Value} (hb : Below (wr.alloc (.cells #[z0, z1, z2, z3] 31)).heap.size (wr.alloc (.cells #[z0, z1, z2, z3] 31)) w1) (a b c d e : Value) :
    (boxW w1 wr.heap.size a b c d e).cell? ⟨wr.heap.size, 0, none⟩ = some a ∧ (boxW w1 wr.heap.size a b c d e).cell? ⟨wr.heap.size, 1, none⟩ = some b ∧ (boxW w1 wr.heap.size a b c d e).cell? ⟨wr.heap.size, 2, none⟩ = some c ∧
    (boxW w1 wr.heap.size a b c d e).cell? ⟨wr.heap.size, 3, none⟩ = some e ∧ Below wr.heap.size wr (boxW w1 wr.heap.size a b c d e) ∧ wr.heap.size < (boxW w1 wr.heap.size a b c d e).heap.size := by
  obtain ⟨hc, hf⟩ := boxes_stay hb
  have hz3 : wr.heap.size < w1.heap.size := by have := hb.size; simp at this; omega
  have d0 := hc wr.heap.size 0 (by simp)
  have d1 := hc wr.heap.size 1 (by simp)
  have d2 := hc wr.heap.size 2 (by simp)
  have d3 := hc wr.heap.size 3 (by simp)
  unfold boxW
  refine ⟨by simp [go_sem, d0], by simp [go_sem, d1], by simp [go_sem, d2], World.cell?_setCell_same (u := d) _ _ _ (by simp [go_sem, d3]), (below_set4 (below_box hb) (Nat.le_refl _) _ _ _ _).setCell (Nat.le_refl _) _, by simp only [World.setCell, Array.size_modify]; exact hz3⟩
theorem own_block {w : World} {B : Nat} {v : Value} {L : List Tok} (h : OwnT w B v L) : ∀ g, v.ownBlock = some g → B ≤ g ∧ g < w.heap.size := by
  intro g hg
  rcases h.2 with ⟨rfl, _⟩ | ⟨g', cap, cur, rfl, hB, hh, _⟩
  · simp [Value.ownBlock] at hg
  · simp [Value.ownBlock] at hg
    subst hg
    exact ⟨hB, (Array.getElem?_eq_some_iff.1 hh).1⟩
/-- Behind an append of one token. -/
theorem after_append {w wr W2 w3 : World} {v v' : Value} {L : List Tok} {t : Tok} {o : Obj} (hO : OwnT wr w.heap.size v L) (hB : Below w.heap.size w wr) (hBW : Below wr.heap.size wr W2) (hsz : wr.heap.size < W2.heap.size)
    (hown' : w3.ownsRow w.heap.size 31 4 v' (L.length + 1) (cellsT L ++ tokCells t)) (hg : (W2.alloc o).grownBy w3 v.ownBlock) :
    OwnT w3 w.heap.size v' (L ++ [t]) ∧ Below w.heap.size w w3 ∧ (∀ j u, W2.cell? ⟨wr.heap.size, j, none⟩ = some u → w3.cell? ⟨wr.heap.size, j, none⟩ = some u) := by
  have hz := hB.size
  refine ⟨?_, ?_, fun j u hu => ?_⟩
  · unfold OwnT
    rw [cellsT_snoc, List.length_append]; exact hown'
  · exact ((hB.trans (hBW.mono hz)).alloc (by have := hBW.size; omega) o).grown hg (by simp; have := hBW.size; omega) (fun k hk => (own_block hO k hk).1)
  · have h1 : (W2.alloc o).cell? ⟨wr.heap.size, j, none⟩ = some u := by
      rw [World.cell?_alloc_lt W2 o _ (by exact hsz)]; exact hu
    rw [← h1]
    exact World.cell?_of_block (hg.block _ (by simp; omega) (fun e => by have := (own_block hO _ e.symm).2; simp at this))
theorem tok_cells {W2 : World} (t : Tok) : ∀ j u, (tokCells t)[j]? = some u → (W2.alloc (.cells #[.int .i64 t.kind, .string ⟨t.text.toArray⟩, .int .i64 t.n, .int .i64 t.pl] 31)).cell? ((⟨W2.heap.size, 0, none⟩ : Addr).add j) = some u := by
  intro j u hu
  match j, hu with
  | 0, hu => simp [tokCells] at hu; subst hu; simp [Addr.add]
  | 1, hu => simp [tokCells] at hu; subst hu; simp [Addr.add]
  | 2, hu => simp [tokCells] at hu; subst hu; simp [Addr.add]
  | 3, hu => simp [tokCells] at hu; subst hu; simp [Addr.add]
  | n + 4, hu => simp [tokCells] at hu
theorem tok_one (t : Tok) : ∀ u ∈ tokCells t, u.oneCell' = true := by
  intro u hu
  simp [tokCells] at hu
  rcases hu with rfl | rfl | rfl | rfl <;> rfl
theorem givesF_of {f f' : Found} {w w' : World} {e : Ending} {v : Value} (he : e = .returned (.tuple #[v, .int .i64 f'.err, .int .i64 f'.pl])) (h : f = f') (ho : OwnT w' w.heap.size v f'.toks) (hb : Below w.heap.size w w') : GivesF f w e w' := by
  subst h; exact ⟨v, he, ho, hb⟩
theorem own_nil (w : World) (B : Nat) : OwnT w B (.slice none 0 0) [] := World.ownsRow_nil _ _ _ _

set_option maxRecDepth 100000 in
set_option maxHeartbeats 4000000 in
theorem scan_any (s : ByteArray) (w : World) (hs : s.size ≤ 4000) (hw : Signs w) : Calls Tryd.prog 10 #[.string s] w (GivesF (scanL s.data.toList 0) w) := by
  obtain ⟨i0, hi, hz0, hz1, hz2⟩ := info_parts info31
  have HZ := Lib.hid (show Tryd.prog.info? 31 = some i0 ∧ i0.zero = some (.agg #[.int .i64 0, .string ⟨#[]⟩, .int .i64 0, .int .i64 0]) ∧ i0.size = 4 ∧ i0.bytes = 40 from ⟨hi, hz0, hz1, hz2⟩)
  have HW := Lib.hid hw
  clear hi hz0 hz1 hz2 hw
  have hs1 : decide ((4000 : Int) < (s.size : Int)) = false := by simp; omega
  go_enter Tryd.func10, Tryd.ntmps10
  go_wp2_with fail
  go_step3
  go_wp2_with fail
  go_step3
  go_wp2_with fail
  go_loopw [5, 6, 7] (fun v i e wr => ∃ (k : Nat) (L : List Tok), k ≤ s.size ∧ i = .int .i64 k ∧ e = .int .i64 0 ∧ OwnT wr w.heap.size v L ∧ Below w.heap.size w wr ∧ L.length ≤ k ∧ (scanL (s.data.toList.drop k) k).pre L = scanL s.data.toList 0) (fun _ i _ _ => s.size - (intOf i).toNat)
  case atStart => exact ⟨0, [], Nat.zero_le _, rfl, rfl, own_nil _ _, Below.refl _ _, Nat.le_refl _, by rw [List.drop_zero]; exact pre_nil _ (scanL_form _ _).1 (scanL_form _ _).2⟩
  case round =>
    obtain ⟨k, L, hk, rfl, rfl, hown, hbel, hlen, hinv⟩ := hrel
    have HI := Lib.hid hinv
    have HO := Lib.hid hown
    have HB := Lib.hid hbel
    clear hinv hown hbel
    by_cases hlt : k < s.size
    · have HD := Lib.hid (drop_at s k hlt)
      obtain ⟨hz, h0, hc⟩ := rest_at s k hlt
      have HE := Lib.hid (extract_drop s k)
      have HC := Lib.hid hc
      have HZ2 := Lib.hid hz
      clear hc hz
      cases hb : blkB (s[k]'hlt) with
      | true =>
        have HS := Lib.hid (inv_blank HD.out hb HI.out)
        have Hb := Lib.hid hb
        clear hb
        go_wp2_with fail
        refine (blank_any _ _).mono ?_
        rw [HC.out, Hb.out]
        rintro e w' ⟨rfl, rfl⟩
        go_wp2_with fail
        go_roundw
        case rel => exact ⟨k + 1, L, by omega, by go_num, rfl, HO.out, HB.out, by omega, HS.out⟩
        case measure => simp [intOf]; omega
      | false =>
        cases hr : isRem (s.data.toList.drop k) with
        | true =>
          have HS := Lib.hid (inv_rem HD.out hb hr HI.out)
          have hl1 := while_le linB (s.data.toList.drop k)
          have hl2 : 1 ≤ ((s.data.toList.drop k).takeWhile linB).length := by rw [HD.out] at hr ⊢; exact rem_len hr
          rw [List.length_drop, len_data] at hl1
          have Hb := Lib.hid hb
          have Hr := Lib.hid hr
          clear hb hr
          generalize hm : (s.data.toList.drop k).takeWhile linB = m at *
          have HM := Lib.hid hm
          clear hm
          go_wp2_with fail
          refine (blank_any _ _).mono ?_
          rw [HC.out, Hb.out]
          rintro e w' ⟨rfl, rfl⟩
          go_wp2_with fail
          refine (hasPre _ _ _).mono ?_
          rw [HE.out, show Lib.hasPrefix (s.data.toList.drop k) (ByteArray.mk #[47, 47]).data.toList = true from Hr.out]
          rintro e w' ⟨rfl, rfl⟩
          go_wp2_with fail
          refine (row_inLine _ _ (by rw [HZ2.out]; omega)).mono ?_
          rw [HE.out, HM.out]
          rintro e w' ⟨rfl, rfl⟩
          go_wp2_with fail
          go_roundw
          case rel => exact ⟨k + m.length, L, by omega, by go_num, rfl, HO.out, HB.out, by omega, HS.out⟩
          case measure => simp [intOf]; omega
        | false =>
          by_cases he : (cutOf (s.data.toList.drop k)).err = 0
          · have HS := Lib.hid (inv_tok HD.out hb hr he HI.out)
            have hok := cut_ok he
            have hl1 := hok.1.length_le
            have hl2 := hok.2
            rw [List.length_drop, len_data] at hl1
            have Hb := Lib.hid hb
            have Hr := Lib.hid hr
            have he2 : ((cutOf (s.data.toList.drop k)).err != 0) = false := by simpa using he
            have He := Lib.hid he
            clear hb hr hok he
            generalize hm : cutOf (s.data.toList.drop k) = m at *
            have HM := Lib.hid hm
            clear hm
            go_wp2_with fail
            refine (blank_any _ _).mono ?_
            rw [HC.out, Hb.out]
            rintro e w' ⟨rfl, rfl⟩
            go_wp2_with fail
            refine (hasPre _ _ _).mono ?_
            rw [HE.out, show Lib.hasPrefix (s.data.toList.drop k) (ByteArray.mk #[47, 47]).data.toList = false from Hr.out]
            rintro e w' ⟨rfl, rfl⟩
            go_wp2_with fail
            refine (first_any _ _ (by rw [HZ2.out]; omega) h0 (by exact (HW.out.on HB.out).alloc _)).mono ?_
            rw [HE.out, HM.out]
            rintro e w1 ⟨rfl, hb⟩
            obtain ⟨hc, hf⟩ := boxes_stay hb
            have hz3 : wr.heap.size + 1 ≤ w1.heap.size := by have := hb.size; simpa using this
            go_upto_region 11 with (fail)
            have hbx := boxW_facts hb (.int .i64 m.kind) (.string ⟨m.text.toArray⟩) (.int .i64 m.n) (.int .i64 0) (.int .i64 k)
            clear hc hf hb
            change Code.wp _ _ _ _ (boxW w1 wr.heap.size (.int .i64 m.kind) (.string ⟨m.text.toArray⟩) (.int .i64 m.n) (.int .i64 0) (.int .i64 k))
            generalize boxW w1 wr.heap.size (.int .i64 m.kind) (.string ⟨m.text.toArray⟩) (.int .i64 m.n) (.int .i64 0) (.int .i64 k) = W2 at *
            obtain ⟨x0, x1, x2, x3, hbw, hsz⟩ := hbx
            have HBW := Lib.hid hbw
            clear hbw hz3
            go_wp2_with (at_builtin; refine wpList_append_own _ rfl (.tmp 29) (.tmp 31) 22 rfl w.heap.size 31 i0 (.agg #[.int .i64 0, .string ⟨#[]⟩, .int .i64 0, .int .i64 0]) 4 40 Tryd.underlying22 HZ.out.1 HZ.out.2.1 HZ.out.2.2.1 HZ.out.2.2.2 rfl (by decide) _ L.length (cellsT L) rfl ?cO ⟨W2.heap.size, 0, none⟩ 1 1 (tokCells ⟨m.kind, m.text, m.n, k⟩) rfl rfl ?c1 ?c2 ?c3 ?c4 ?c5 ?_)
            case cO => exact own_on HO.out (HBW.out.alloc (by omega) _)
            case c1 => exact tok_cells ⟨m.kind, m.text, m.n, k⟩
            case c2 => exact tok_one _
            case c3 => unfold maxLen; omega
            case c4 => omega
            case c5 => have := HB.out.size; simp; omega
            intro v' w3 hown' hgrow _
            have R := after_append (t := ⟨m.kind, m.text, m.n, k⟩) HO.out HB.out HBW.out hsz hown' hgrow
            have y1 := R.2.2 1 _ x1
            have HR := Lib.hid R
            clear hown' hgrow R x0 x1 x2 x3
            go_wp2_with fail
            go_roundw
            case rel => exact ⟨k + m.text.length, _, by omega, by go_num, by rw [He.out], HR.out.1, HR.out.2.1, by simp; omega, HS.out⟩
            case measure => simp [intOf]; omega
          · have HS := Lib.hid (inv_bad HD.out hb hr he HI.out)
            have Hb := Lib.hid hb
            have Hr := Lib.hid hr
            have he2 : ((cutOf (s.data.toList.drop k)).err != 0) = true := by simpa using he
            clear hb hr
            generalize hm : cutOf (s.data.toList.drop k) = m at *
            have HM := Lib.hid hm
            clear hm
            go_wp2_with fail
            refine (blank_any _ _).mono ?_
            rw [HC.out, Hb.out]
            rintro e w' ⟨rfl, rfl⟩
            go_wp2_with fail
            refine (hasPre _ _ _).mono ?_
            rw [HE.out, show Lib.hasPrefix (s.data.toList.drop k) (ByteArray.mk #[47, 47]).data.toList = false from Hr.out]
            rintro e w' ⟨rfl, rfl⟩
            go_wp2_with fail
            refine (first_any _ _ (by rw [HZ2.out]; omega) h0 (by exact (HW.out.on HB.out).alloc _)).mono ?_
            rw [HE.out, HM.out]
            rintro e w1 ⟨rfl, hb⟩
            obtain ⟨hc, hf⟩ := boxes_stay hb
            have hz3 : wr.heap.size + 1 ≤ w1.heap.size := by have := hb.size; simpa using this
            go_wp2_with fail
            rw [Exit.noGoto_ret]
            go_ret3
            exact givesF_of rfl HS.out (own_nil _ _) (HB.out.trans ((below_box4 hb _ _ _ _).mono HB.out.size))
    · have HS := Lib.hid (inv_end (by rw [len_data]; omega) HI.out)
      go_wp2_with fail
      rw [Exit.noGoto_ret]
      go_ret3
      exact givesF_of rfl HS.out HO.out HB.out
end Go.Proofs.YtgecocpcbfccgaaDoor
