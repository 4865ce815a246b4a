/-
  DERIVED. Layer 2: the walk of the law ScanJoins: for every two texts it is true.
-/
import Derived.Test.YtgecocpcbfccgaaDoorBlanks
import Derived.Laws.AppendOwnNone
namespace Go.Proofs.YtgecocpcbfccgaaDoor
open Go.RowKit

theorem places_le {l : List UInt8} : ∀ {L : List Tok} {e : Nat}, PlacesOK l e L → ∀ t ∈ L, t.pl ≤ l.length
  | [], _, _, t, ht => by simp at ht
  | a :: L, _, h, t, ht => by
    simp at ht
    rcases ht with rfl | ht
    · have := h.2.2.1; omega
    · exact places_le h.2.2.2.2.2.2.2.2 t ht
theorem same_refl : ∀ (p : Bool) (L : List Tok), sameB p L L = true
  | _, [] => rfl
  | p, t :: L => by unfold sameB; rw [same_refl p L]; simp [tokEq]
theorem empty_own (w : World) (B : Nat) (hB : B ≤ w.heap.size) : OwnT (w.alloc (.cells #[] 31)) B (.slice (some ⟨w.heap.size, 0, none⟩) 0 0) [] :=
  ⟨rfl, .inr ⟨w.heap.size, 0, #[], rfl, hB, heap_alloc_new w _, by decide, by decide, rfl, rfl⟩⟩
theorem cellsT_app (L M : List Tok) : cellsT (L ++ M) = cellsT L ++ cellsT M := by simp [cellsT]
theorem take_move (M : List Tok) (k d : Nat) (t : Tok) (h : M[k]? = some t) (F : List Tok) : F ++ (M.take (k + 1)).map (Tok.move d) = (F ++ (M.take k).map (Tok.move d)) ++ [t.move d] := by
  rw [List.take_add_one, h]; simp
theorem own_one {L : List Tok} : ∀ u ∈ cellsT L, u.oneCell' = true := by
  intro u hu
  simp only [cellsT, List.mem_flatMap] at hu
  obtain ⟨t, _, hu⟩ := hu
  exact tok_one t u hu
theorem own_grown {w wr w' : World} {v : Value} {L : List Tok} (hO : OwnT wr w.heap.size v L) (hB : Below w.heap.size w wr) (hg : wr.grownBy w' v.ownBlock) : Below w.heap.size w w' :=
  hB.grown hg hB.size (fun k hk => (own_block hO k hk).1)
/-- What both texts together have. -/
theorem join_found (u t : List UInt8) : scanL (u ++ 10 :: t) 0 = if (scanL u 0).err = 0 then ((scanL t 0).move (u.length + 1)).pre (scanL u 0).toks else scanL u 0 := by
  rw [scan_join, ← scan_move, show 0 + u.length + 1 = 0 + (u.length + 1) from by omega]

theorem own_cases {w : World} {B : Nat} {v : Value} {L : List Tok} (h : OwnT w B v L) : (v = .slice none 0 0 ∧ L = []) ∨
    ∃ g cap, v = .slice (some ⟨g, 0, none⟩) L.length cap ∧ g < w.heap.size ∧ ∀ j u, (cellsT L)[j]? = some u → w.cell? ((⟨g, 0, none⟩ : Addr).add j) = some u := by
  rcases h.2 with ⟨hn, h0⟩ | ⟨g, cap, cur, hn, _, hh, _⟩
  · exact .inl ⟨hn, List.length_eq_zero_iff.1 h0⟩
  · exact .inr ⟨g, cap, hn, (Array.getElem?_eq_some_iff.1 hh).1, World.ownsRow.cells (g := g) h (by rw [hn]; rfl)⟩

theorem tok_cells_at {W2 : World} (t : Tok) (q : Int) (hq : q = (t.pl : Int)) (b : Nat) (hb : b = W2.heap.size) : ∀ j u, (tokCells t)[j]? = some u → (W2.alloc (.cells #[.int .i64 t.kind, .string ⟨t.text.toArray⟩, .int .i64 t.n, .int .i64 q] 31)).cell? ((⟨b, 0, none⟩ : Addr).add j) = some u := by
  subst hq; subst hb; exact tok_cells t

set_option maxRecDepth 100000 in
set_option maxHeartbeats 8000000 in
theorem joins_any (s t : ByteArray) (w : World) (hw : Signs w) : Calls Tryd.prog 8 #[.string s, .string t] w (IsTrue w) := by
  have HU := Lib.hid (cut_size s 700)
  have HU2 := Lib.hid (cut_size t 700)
  have HW := Lib.hid hw
  clear hw
  obtain ⟨i0, hi, hz0, hz1, hz2⟩ := info_parts info31
  have HZ := Lib.hid (show Tryd.prog.info? 31 = some i0 ∧ i0.zero = some (.agg #[.int .i64 0, .string ⟨#[]⟩, .int .i64 0, .int .i64 0]) ∧ i0.size = 4 ∧ i0.bytes = 40 from ⟨hi, hz0, hz1, hz2⟩)
  clear hi hz0 hz1 hz2
  go_enter Tryd.func8, Tryd.ntmps8
  go_wp2_with fail
  change Calls _ _ #[.string (s.extract 0 (min (s.size : Int) (700 : Nat)).toNat)] _ _
  generalize s.extract 0 (min (s.size : Int) (700 : Nat)).toNat = u at *
  generalize min (s.size : Int) 700 = mm
  have hu := HU.out
  refine (scan_any u _ (by omega) HW.out).mono ?_
  have hsl := scan_len u.data.toList 0
  have hpl := scan_errpl u.data.toList 0
  have hfm := scanL_form u.data.toList 0
  have HJ := Lib.hid (join_found u.data.toList)
  rw [len_data] at hsl hpl HJ
  generalize scanL u.data.toList 0 = f at *
  rintro e w1 ⟨v1, rfl, ho, hb⟩
  have HO := Lib.hid ho
  have HB := Lib.hid hb
  clear ho hb
  go_wp2_with fail
  change Calls _ _ #[.string (t.extract 0 (min (t.size : Int) (700 : Nat)).toNat)] _ _
  generalize t.extract 0 (min (t.size : Int) (700 : Nat)).toNat = x at *
  generalize min (t.size : Int) 700 = mx
  have hx := HU2.out
  refine (scan_any x _ (by omega) (HW.out.on HB.out)).mono ?_
  have hsl2 := scan_len x.data.toList 0
  have hpl2 := scan_errpl x.data.toList 0
  have hfm2 := scanL_form x.data.toList 0
  have hpo2 := places_le (places_pure x.data.toList x.data.toList 0 (Nat.zero_le _) rfl)
  have HJ2 := Lib.hid (HJ.out x.data.toList)
  rw [len_data] at hsl2 hpl2 hpo2
  generalize scanL x.data.toList 0 = g at *
  rintro e w2 ⟨v2, rfl, ho, hb⟩
  replace HO := Lib.hid (own_on HO.out hb)
  have HV := Lib.hid ho.read
  replace HB := Lib.hid (below_then HB.out hb)
  clear ho hb
  have HX : Hid ((u ++ ByteArray.mk #[10] ++ x).data.toList = u.data.toList ++ 10 :: x.data.toList) := Lib.hid (by simp)
  have HXs : Hid ((u ++ ByteArray.mk #[10] ++ x).size ≤ 4000) := Lib.hid (by rw [← len_data, HX.out, List.length_append, List.length_cons, len_data, len_data]; omega)
  go_wp2_with fail
  refine (scan_any _ _ HXs.out (HW.out.on HB.out)).mono ?_
  rw [HX.out, HJ2.out]
  clear HX HXs HJ HJ2 HU HU2
  by_cases he : f.err = 0
  · have he2 : (f.err != 0) = false := by simpa using he
    rw [if_pos he]
    by_cases hg : g.err = 0
    · have hg2 : (g.err != 0) = false := by simpa using hg
      rw [show (g.move (u.size + 1)).pre f.toks = ⟨f.toks ++ g.toks.map (Tok.move (u.size + 1)), 0, 0⟩ from by unfold Found.move; rw [if_pos hg]; rfl]
      clear he hg hpl hpl2 hfm hfm2
      have HPL := Lib.hid hpo2
      clear hpo2
      generalize f.toks = F at *
      generalize g.toks = M at *
      have hF : F.length ≤ 700 := by omega
      have hM : M.length ≤ 700 := by omega
      clear hsl hsl2
      rintro e w3 ⟨v3, rfl, ho, hb⟩
      replace HO := Lib.hid (own_on HO.out hb)
      replace HV := Lib.hid (HV.out.on hb)
      have HC := Lib.hid ho.read
      replace HB := Lib.hid (below_then HB.out hb)
      clear ho hb
      obtain ⟨A2, c2, hv2, hc2, hr2⟩ := HV.out
      subst hv2
      have HR2 := Lib.hid hr2
      clear hr2
      rcases own_cases HO.out with ⟨hn, h0⟩ | ⟨ga, cap, hn, hgl, hcc⟩
      · subst hn
        subst h0
        go_wp2_with (at_builtin; refine wpList_append_own_none rfl (.tmp 88) (.tmp 89) 22 rfl w3.heap.size 31 i0 4 Tryd.underlying22 HZ.out.1 _ 0 [] rfl ?m0 rfl ?_)
        case m0 => exact empty_own w3 _ (Nat.le_refl _)
        go_loopw [14, 15] (fun v i wr => ∃ k : Nat, k ≤ M.length ∧ i = .int .i64 k ∧ OwnT wr w3.heap.size v ([] ++ (M.take k).map (Tok.move (u.size + 1))) ∧ Below w3.heap.size w3 wr) (fun _ i _ => M.length - (intOf i).toNat)
        case atStart => exact ⟨0, Nat.zero_le _, rfl, empty_own w3 _ (Nat.le_refl _), (Below.refl _ _).alloc (Nat.le_refl _) _⟩
        case round =>
          obtain ⟨k, hk, rfl, hown, hbel⟩ := hrel
          have HK := Lib.hid hown
          have HL := Lib.hid hbel
          have hsz := hbel.size
          clear hown hbel
          by_cases hlt : k < M.length
          · have ha : M[k]? = some M[k] := List.getElem?_eq_getElem hlt
            have hap := HPL.out _ (List.getElem_mem hlt)
            generalize M[k] = a at *
            obtain ⟨g2, hA2, hg2l, y0, y1, y2, y3⟩ := HR2.out k a ha
            subst hA2
            have x0 := (HL.out.cell (p := ⟨g2, k * 4, none⟩) hg2l).trans y0
            have x1 := (HL.out.cell (p := ⟨g2, k * 4 + 1, none⟩) hg2l).trans y1
            have x2 := (HL.out.cell (p := ⟨g2, k * 4 + 2, none⟩) hg2l).trans y2
            have x3 := (HL.out.cell (p := ⟨g2, k * 4 + 3, none⟩) hg2l).trans y3
            have HT := Lib.hid (take_move M k (u.size + 1) a ha [])
            have hlen : ([] ++ (M.take k).map (Tok.move (u.size + 1))).length ≤ 1400 := by simp; omega
            clear y0 y1 y2 y3 ha
            generalize [] ++ (M.take k).map (Tok.move (u.size + 1)) = G at *
            go_wp2_with (at_builtin; refine wpList_append_own _ rfl (.tmp 108) (.tmp 110) 22 rfl w3.heap.size 31 i0 (.agg #[.int .i64 0, .string ⟨#[]⟩, .int .i64 0, .int .i64 0]) 4 40 Tryd.underlying22 HZ.out.1 HZ.out.2.1 HZ.out.2.2.1 HZ.out.2.2.2 rfl (by decide) _ G.length (cellsT G) rfl ?nO ⟨wr.heap.size + 1, 0, none⟩ 1 1 (tokCells (a.move (u.size + 1))) rfl rfl ?n1 ?n2 ?n3 ?n4 ?n5 ?_)
            case nO => exact own_on HK.out (((Below.refl _ _).alloc (Nat.le_refl _) _).alloc (by simp) _)
            case n1 => exact tok_cells_at (a.move (u.size + 1)) _ (by simp [Tok.move]; omega) _ (by simp)
            case n2 => exact tok_one _
            case n3 => unfold maxLen; omega
            case n4 => omega
            case n5 => simp; omega
            intro v5 w5 hown' hgrow _
            have HK5 : Hid (OwnT w5 w3.heap.size v5 (G ++ [a.move (u.size + 1)])) := Lib.hid (by unfold OwnT; rw [cellsT_snoc, List.length_append]; exact hown')
            have HL5 : Hid (Below w3.heap.size w3 w5) := Lib.hid (((HL.out.alloc hsz _).alloc (by simp; omega) _).grown hgrow (by simp; omega) (fun k hk => (own_block HK.out k hk).1))
            clear hown' hgrow x0 x1 x2 x3
            go_wp2_with fail
            go_roundw
            case rel => exact ⟨k + 1, by omega, by go_num, by rw [HT.out]; exact HK5.out, HL5.out⟩
            case measure => simp [intOf]; omega
          · obtain rfl : k = M.length := by omega
            have hO := HK.out
            rw [List.take_of_length_le (Nat.le_refl _)] at hO
            have HO6 := Lib.hid hO.read
            clear hO
            have HS := Lib.hid (same_refl true ([] ++ M.map (Tok.move (u.size + 1))))
            have hlen : ([] ++ M.map (Tok.move (u.size + 1))).length ≤ 1400 := by simp; omega
            generalize [] ++ M.map (Tok.move (u.size + 1)) = G at *
            go_wp2_with fail
            refine (same_any true _ _ G G _ (HC.out.on HL.out) HO6.out (by omega)).mono ?_
            rw [HS.out]
            rintro e w6 ⟨rfl, hb⟩
            replace HB := Lib.hid (below_then (below_then HB.out HL.out) hb)
            clear hb
            go_wp2_with fail
            refine (fixed_any _ (HW.out.on HB.out)).mono ?_
            rintro e w7 ⟨rfl, hb⟩
            replace HB := Lib.hid (below_then HB.out hb)
            clear hb
            go_wp2_with fail
            go_ret
            exact ⟨rfl, HB.out⟩
      · subst hn
        have HCC := Lib.hid hcc
        clear hcc
        go_wp2_with (at_builtin; refine wpList_append_own _ rfl (.tmp 88) (.tmp 89) 22 rfl w3.heap.size 31 i0 (.agg #[.int .i64 0, .string ⟨#[]⟩, .int .i64 0, .int .i64 0]) 4 40 Tryd.underlying22 HZ.out.1 HZ.out.2.1 HZ.out.2.2.1 HZ.out.2.2.2 rfl (by decide) _ 0 [] rfl ?cO ⟨ga, 0, none⟩ F.length cap (cellsT F) rfl ?cL ?c1 ?c2 ?c3 ?c4 ?c5 ?_)
        case cO => exact empty_own w3 _ (Nat.le_refl _)
        case cL => rw [cellsT_len]; omega
        case c1 => exact fun j u hu => by rw [World.cell?_alloc_lt w3 _ _ (by unfold Addr.add; split <;> exact hgl)]; exact HCC.out j u hu
        case c2 => exact own_one
        case c3 => unfold maxLen; omega
        case c4 => omega
        case c5 => simp
        intro v' w4 hown' hgrow _
        have START : Hid (OwnT w4 w3.heap.size v' F) := Lib.hid hown'
        have STARTB : Hid (Below w3.heap.size w3 w4) := Lib.hid (((Below.refl _ _).alloc (Nat.le_refl _) _).grown hgrow (by simp) (fun k hk => by simp [Value.ownBlock] at hk; omega))
        clear hown' hgrow
        go_wp2_with fail
        go_loopw [14, 15] (fun v i wr => ∃ k : Nat, k ≤ M.length ∧ i = .int .i64 k ∧ OwnT wr w3.heap.size v (F ++ (M.take k).map (Tok.move (u.size + 1))) ∧ Below w3.heap.size w3 wr) (fun _ i _ => M.length - (intOf i).toNat)
        case atStart => exact ⟨0, Nat.zero_le _, rfl, by simpa using START.out, STARTB.out⟩
        case round =>
          obtain ⟨k, hk, rfl, hown, hbel⟩ := hrel
          have HK := Lib.hid hown
          have HL := Lib.hid hbel
          have hsz := hbel.size
          clear hown hbel
          by_cases hlt : k < M.length
          · have ha : M[k]? = some M[k] := List.getElem?_eq_getElem hlt
            have hap := HPL.out _ (List.getElem_mem hlt)
            generalize M[k] = a at *
            obtain ⟨g2, hA2, hg2l, y0, y1, y2, y3⟩ := HR2.out k a ha
            subst hA2
            have x0 := (HL.out.cell (p := ⟨g2, k * 4, none⟩) hg2l).trans y0
            have x1 := (HL.out.cell (p := ⟨g2, k * 4 + 1, none⟩) hg2l).trans y1
            have x2 := (HL.out.cell (p := ⟨g2, k * 4 + 2, none⟩) hg2l).trans y2
            have x3 := (HL.out.cell (p := ⟨g2, k * 4 + 3, none⟩) hg2l).trans y3
            have HT := Lib.hid (take_move M k (u.size + 1) a ha F)
            have hlen : (F ++ (M.take k).map (Tok.move (u.size + 1))).length ≤ 1400 := by simp; omega
            clear y0 y1 y2 y3 ha
            generalize F ++ (M.take k).map (Tok.move (u.size + 1)) = G at *
            go_wp2_with (at_builtin; refine wpList_append_own _ rfl (.tmp 108) (.tmp 110) 22 rfl w3.heap.size 31 i0 (.agg #[.int .i64 0, .string ⟨#[]⟩, .int .i64 0, .int .i64 0]) 4 40 Tryd.underlying22 HZ.out.1 HZ.out.2.1 HZ.out.2.2.1 HZ.out.2.2.2 rfl (by decide) _ G.length (cellsT G) rfl ?dO ⟨wr.heap.size + 1, 0, none⟩ 1 1 (tokCells (a.move (u.size + 1))) rfl rfl ?d1 ?d2 ?d3 ?d4 ?d5 ?_)
            case dO => exact own_on HK.out (((Below.refl _ _).alloc (Nat.le_refl _) _).alloc (by simp) _)
            case d1 => exact tok_cells_at (a.move (u.size + 1)) _ (by simp [Tok.move]; omega) _ (by simp)
            case d2 => exact tok_one _
            case d3 => unfold maxLen; omega
            case d4 => omega
            case d5 => simp; omega
            intro v5 w5 hown' hgrow _
            have HK5 : Hid (OwnT w5 w3.heap.size v5 (G ++ [a.move (u.size + 1)])) := Lib.hid (by unfold OwnT; rw [cellsT_snoc, List.length_append]; exact hown')
            have HL5 : Hid (Below w3.heap.size w3 w5) := Lib.hid (((HL.out.alloc hsz _).alloc (by simp; omega) _).grown hgrow (by simp; omega) (fun k hk => (own_block HK.out k hk).1))
            clear hown' hgrow x0 x1 x2 x3
            go_wp2_with fail
            go_roundw
            case rel => exact ⟨k + 1, by omega, by go_num, by rw [HT.out]; exact HK5.out, HL5.out⟩
            case measure => simp [intOf]; omega
          · obtain rfl : k = M.length := by omega
            have hO := HK.out
            rw [List.take_of_length_le (Nat.le_refl _)] at hO
            have HO6 := Lib.hid hO.read
            clear hO
            have HS := Lib.hid (same_refl true (F ++ M.map (Tok.move (u.size + 1))))
            have hlen : (F ++ M.map (Tok.move (u.size + 1))).length ≤ 1400 := by simp; omega
            generalize F ++ M.map (Tok.move (u.size + 1)) = G at *
            go_wp2_with fail
            refine (same_any true _ _ G G _ (HC.out.on HL.out) HO6.out (by omega)).mono ?_
            rw [HS.out]
            rintro e w6 ⟨rfl, hb⟩
            replace HB := Lib.hid (below_then (below_then HB.out HL.out) hb)
            clear hb
            go_wp2_with fail
            refine (fixed_any _ (HW.out.on HB.out)).mono ?_
            rintro e w7 ⟨rfl, hb⟩
            replace HB := Lib.hid (below_then HB.out hb)
            clear hb
            go_wp2_with fail
            go_ret
            exact ⟨rfl, HB.out⟩
    · have hg2 : (g.err != 0) = true := by simpa using hg
      rw [show (g.move (u.size + 1)).pre f.toks = ⟨[], g.err, g.pl + (u.size + 1)⟩ from by unfold Found.move; rw [if_neg hg]; unfold Found.pre; rw [if_neg hg]]
      have hp := (hpl2 hg).2
      clear he hg hpl hpl2 hfm hfm2 hpo2 hsl hsl2
      have hq : (((g.pl + (u.size + 1) : Nat) : Int) == (g.pl : Int) + (u.size : Int) + 1) = true := by rw [beq_iff_eq]; omega
      generalize g.pl + (u.size + 1) = q at *
      rintro e w3 ⟨v3, rfl, ho, hb⟩
      obtain ⟨A3, c3, hv3⟩ := own_slice ho
      replace HB := Lib.hid (below_then HB.out hb)
      clear ho hb
      subst hv3
      go_wp2_with fail
      refine (fixed_any _ (HW.out.on HB.out)).mono ?_
      rintro e w7 ⟨rfl, hb⟩
      replace HB := Lib.hid (below_then HB.out hb)
      clear hb
      go_wp2_with fail
      go_ret
      exact ⟨rfl, HB.out⟩
  · have he2 : (f.err != 0) = true := by simpa using he
    rw [if_neg he]
    have ht := hfm.2 he
    clear he hpl hpl2 hfm hfm2 hpo2 hsl hsl2
    rintro e w3 ⟨v3, rfl, ho, hb⟩
    rw [ht] at ho
    obtain ⟨A3, c3, hv3⟩ := own_slice ho
    replace HB := Lib.hid (below_then HB.out hb)
    clear ho hb ht
    subst hv3
    go_wp2_with fail
    refine (fixed_any _ (HW.out.on HB.out)).mono ?_
    rintro e w7 ⟨rfl, hb⟩
    replace HB := Lib.hid (below_then HB.out hb)
    clear hb
    go_wp2_with fail
    go_ret
    exact ⟨rfl, HB.out⟩
end Go.Proofs.YtgecocpcbfccgaaDoor
