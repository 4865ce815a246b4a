/-
  DERIVED. Layer 3: the walk of the law ExprBinds: for every two numbers it is true.
-/
import Derived.Test.YtcmbcbdijmknnaaDoorBack
namespace Go.Proofs.YtcmbcbdijmknnaaDoor
open Go.RowKit

def opsTab : List (List UInt8) := [[43], [45], [42], [47], [37], [61, 61], [33, 61], [60], [60, 61], [38, 38], [124, 124]]
def opsVals : Array Value := #[.string ⟨#[43]⟩, .string ⟨#[45]⟩, .string ⟨#[42]⟩, .string ⟨#[47]⟩, .string ⟨#[37]⟩, .string ⟨#[61, 61]⟩, .string ⟨#[33, 61]⟩, .string ⟨#[60]⟩, .string ⟨#[60, 61]⟩, .string ⟨#[38, 38]⟩, .string ⟨#[124, 124]⟩]
def floorL (o : List UInt8) : Nat := if o = [124, 124] then 1 else if o = [38, 38] then 2 else if o = [61, 61] ∨ o = [33, 61] ∨ o = [60] ∨ o = [60, 61] then 3 else if o = [43] ∨ o = [45] then 4 else 5
def txt3 (o p : List UInt8) : List UInt8 := [97, 32] ++ o ++ [32, 98, 32] ++ p ++ [32, 99]
def left3 (o p : List UInt8) : List UInt8 := [40, 97, 32] ++ o ++ [32, 98, 41, 32] ++ p ++ [32, 99]
def right3 (o p : List UInt8) : List UInt8 := [97, 32] ++ o ++ [32, 40, 98, 32] ++ p ++ [32, 99, 41]
def two (o : List UInt8) : List UInt8 := [97, 32] ++ o ++ [32, 98]
def bindOK (o p : List UInt8) : Bool :=
  let T := (scanL (txt3 o p) 0).toks
  let q := exprV T 0
  decide (T.length ≤ 10000) && decide (SmallT T) && decide (SmallN q.nodes) && decide (q.nodes.length ≤ 10000) && decide (q.err = 0) &&
    (if floorL o = 3 ∧ floorL p = 3 then decide (q.to = 3) && decide (shownL q.nodes = two o) else decide (q.to = 5) && decide (shownL q.nodes = if floorL o < floorL p then right3 o p else left3 o p))
theorem binds_pure : opsTab.all (fun o => opsTab.all (bindOK o)) = true := by decide +kernel
theorem bind_facts {o p : List UInt8} (h1 : o ∈ opsTab) (h2 : p ∈ opsTab) : (scanL (txt3 o p) 0).toks.length ≤ 10000 ∧ SmallT (scanL (txt3 o p) 0).toks ∧ ∃ N to pl, exprV (scanL (txt3 o p) 0).toks 0 = ⟨N, to, 0, pl⟩ ∧ SmallN N ∧ N.length ≤ 10000 ∧
    (floorL o = 3 ∧ floorL p = 3 → to = 3 ∧ shownL N = two o) ∧ (¬ (floorL o = 3 ∧ floorL p = 3) → to = 5 ∧ shownL N = if floorL o < floorL p then right3 o p else left3 o p) := by
  have h := List.all_eq_true.1 (List.all_eq_true.1 binds_pure o h1) p h2
  unfold bindOK at h
  simp only [Bool.and_eq_true, decide_eq_true_eq] at h
  obtain ⟨⟨⟨⟨⟨a1, a2⟩, a3⟩, a4⟩, a5⟩, a6⟩ := h
  generalize exprV (scanL (txt3 o p) 0).toks 0 = q at *
  obtain ⟨N, to, err, pl⟩ := q
  simp only at a3 a4 a5 a6
  subst a5
  refine ⟨a1, a2, N, to, pl, rfl, a3, a4, fun hf => ?_, fun hf => ?_⟩
  · rw [if_pos hf] at a6
    simpa using a6
  · rw [if_neg hf] at a6
    simpa using a6
theorem cat_txt3 (o p : List UInt8) : (⟨#[97, 32]⟩ ++ ⟨o.toArray⟩ ++ ⟨#[32, 98, 32]⟩ ++ ⟨p.toArray⟩ ++ ⟨#[32, 99]⟩ : ByteArray) = ⟨(txt3 o p).toArray⟩ := by apply bytes_ext; simp [txt3]
theorem cat_left (o p : List UInt8) : (⟨(left3 o p).toArray⟩ : ByteArray) = ⟨#[40, 97, 32]⟩ ++ ⟨o.toArray⟩ ++ ⟨#[32, 98, 41, 32]⟩ ++ ⟨p.toArray⟩ ++ ⟨#[32, 99]⟩ := by apply bytes_ext; simp [left3]
theorem cat_right (o p : List UInt8) : (⟨(right3 o p).toArray⟩ : ByteArray) = ⟨#[97, 32]⟩ ++ ⟨o.toArray⟩ ++ ⟨#[32, 40, 98, 32]⟩ ++ ⟨p.toArray⟩ ++ ⟨#[32, 99, 41]⟩ := by apply bytes_ext; simp [right3]
theorem cat_two (o : List UInt8) : (⟨(two o).toArray⟩ : ByteArray) = ⟨#[97, 32]⟩ ++ ⟨o.toArray⟩ ++ ⟨#[32, 98]⟩ := by apply bytes_ext; simp [two]
theorem ops_small : opsTab.all (fun o => decide (o.length ≤ 2)) = true := by decide
theorem ops_get {k : Nat} (hk : k < 11) : opsTab[k]? = some (opsTab.getD k []) := by
  rw [List.getD_eq_getElem?_getD, List.getElem?_eq_getElem (show k < opsTab.length from hk)]; rfl
theorem ops_vals : opsVals.toList = opsTab.map fun t => Value.string ⟨t.toArray⟩ := rfl
theorem ops_cell (w : World) : (∀ k, k < 11 → (w.alloc (.cells opsVals 9)).cell? ⟨w.heap.size, k, none⟩ = some (.string ⟨(opsTab.getD k []).toArray⟩)) ∧ Below w.heap.size w (w.alloc (.cells opsVals 9)) := by
  refine ⟨fun k hk => ?_, (Below.refl _ _).alloc (Nat.le_refl _) _⟩
  rw [cell_of_row (w.alloc (.cells opsVals 9)) w.heap.size k opsVals 9 (0, 0) (heap_alloc_new w _)]
  have h := ops_vals
  have h1 : opsVals.toList[k]? = some (.string ⟨(opsTab.getD k []).toArray⟩) := by rw [h, List.getElem?_map, ops_get hk]; rfl
  simpa using h1

set_option maxRecDepth 100000 in
set_option maxHeartbeats 4000000 in
theorem lfloor_any (o : List UInt8) (ho : o ∈ opsTab) (w : World) : Calls Tryd.prog 29 #[.string ⟨o.toArray⟩] w (fun e w' => e = .returned (.int .i64 (floorL o)) ∧ w' = w) := by
  have h : o = [43] ∨ o = [45] ∨ o = [42] ∨ o = [47] ∨ o = [37] ∨ o = [61, 61] ∨ o = [33, 61] ∨ o = [60] ∨ o = [60, 61] ∨ o = [38, 38] ∨ o = [124, 124] := by simpa [opsTab] using ho
  clear ho
  rcases h with rfl | rfl | rfl | rfl | rfl | rfl | rfl | rfl | rfl | rfl | rfl <;> (go_enter Tryd.func29, Tryd.ntmps29; go_wp2_with fail; go_ret; exact ⟨rfl, rfl⟩)

set_option maxRecDepth 100000 in
set_option maxHeartbeats 8000000 in
theorem binds_any (i j : Int) (w : World) (ht : Tabs w) : Calls Tryd.prog 9 #[.int .i64 i, .int .i64 j] w (IsTrue w) := by
  have HT := Lib.hid ht
  have hk := ops_cell w
  clear ht
  have hq1 := and_ffff i
  have hq2 := and_ffff j
  obtain ⟨k1, he1⟩ : ∃ k : Nat, bits .and .i64 i 65535 % 11 = k := ⟨(bits .and .i64 i 65535 % 11).toNat, by omega⟩
  obtain ⟨k2, he2⟩ : ∃ k : Nat, bits .and .i64 j 65535 % 11 = k := ⟨(bits .and .i64 j 65535 % 11).toNat, by omega⟩
  have hk1 : k1 < 11 := by omega
  have hk2 : k2 < 11 := by omega
  go_enter Tryd.func9, Tryd.ntmps9
  go_wp2_with fail
  change Code.wp _ _ _ _ (w.alloc (.cells opsVals 9))
  generalize w.alloc (.cells opsVals 9) = W at *
  have hc1 := hk.1 k1 hk1
  have hc2 := hk.1 k2 hk2
  have HB := Lib.hid hk.2
  have hm1 : opsTab.getD k1 [] ∈ opsTab := List.mem_of_getElem? (ops_get hk1)
  have hm2 : opsTab.getD k2 [] ∈ opsTab := List.mem_of_getElem? (ops_get hk2)
  clear hk
  generalize opsTab.getD k1 [] = o at *
  generalize opsTab.getD k2 [] = p at *
  go_quiet (fail)
  have ho2 : o.length ≤ 2 := by have := List.all_eq_true.1 ops_small o hm1; simpa using this
  have hp2 : p.length ≤ 2 := by have := List.all_eq_true.1 ops_small p hm2; simpa using this
  clear hc1 hc2 he1 he2 hk1 hk2 hq1 hq2
  go_wp2_with fail
  rw [cat_txt3]
  replace HB := Lib.hid (HB.out.trans (below_anyN _ W nq))
  obtain ⟨t1, t2, N, to, pl, hex, hns, hn, h33, hno⟩ := bind_facts hm1 hm2
  have htl : (txt3 o p).length ≤ 4000 := by simp [txt3]; omega
  have HEX := Lib.hid hex
  have HST := Lib.hid t2
  have HN := Lib.hid hns
  have HM1 := Lib.hid hm1
  have HM2 := Lib.hid hm2
  have H33 := Lib.hid h33
  have HNO := Lib.hid hno
  clear hex t2 hns hm1 hm2 h33 hno
  refine (tokens_any ⟨(txt3 o p).toArray⟩ _ (by simpa [ByteArray.size] using htl)).mono ?_
  rw [show (⟨(txt3 o p).toArray⟩ : ByteArray).data.toList = txt3 o p from rfl]
  generalize (scanL (txt3 o p) 0).toks = T at *
  clear htl
  rintro e w1 ⟨v1, rfl, ho, hb⟩
  obtain ⟨A1, c1, rfl, _⟩ := ho.read
  have HO1 := Lib.hid ho.read
  replace HB := Lib.hid (below_then HB.out hb)
  clear ho hb
  go_wp2_with fail
  refine (parse_any _ T 0 _ HO1.out (HT.out.on HB.out) t1 HST.out).mono ?_
  rw [HEX.out]
  rintro e w2 ⟨v2, rfl, ho, hb⟩
  obtain ⟨A2, c2, rfl, _⟩ := ho.read
  have HO := Lib.hid ho.read
  replace HB := Lib.hid (below_then HB.out hb)
  clear ho hb HO1 HEX
  generalize hF1 : floorL o = F1 at *
  generalize hF2 : floorL p = F2 at *
  have HF1 := Lib.hid hF1
  have HF2 := Lib.hid hF2
  clear hF1 hF2
  by_cases e1 : F1 = 3
  · have f1 : ((F1 : Int) == 3) = true := by simp; omega
    by_cases e2 : F2 = 3
    · have f2 : ((F2 : Int) == 3) = true := by simp; omega
      obtain ⟨rfl, hsh⟩ := H33.out ⟨e1, e2⟩
      have HSH := Lib.hid hsh
      clear hsh
      go_wp2_with fail
      refine (lfloor_any o HM1.out _).mono ?_
      rw [HF1.out]
      rintro e _ ⟨rfl, rfl⟩
      go_wp2_with fail
      refine (lfloor_any p HM2.out _).mono ?_
      rw [HF2.out]
      rintro e _ ⟨rfl, rfl⟩
      go_wp2_with fail
      refine (show_any _ N _ HO.out hn HN.out (HT.out.on HB.out)).mono ?_
      rintro e w5 ⟨he, hb⟩
      rw [HSH.out, cat_two] at he
      subst he
      replace HB := Lib.hid (below_then HB.out hb)
      clear hb
      go_wp2_with fail
      refine (fixed_any _ (HT.out.on HB.out)).mono ?_
      rintro e w6 ⟨rfl, hb⟩
      go_wp2_with fail
      go_ret
      exact ⟨rfl, below_then HB.out hb⟩
    · have f2 : ((F2 : Int) == 3) = false := beq_eq_false_iff_ne.2 (by omega)
      obtain ⟨rfl, hsh0⟩ := HNO.out (by omega)
      by_cases e3 : F1 < F2
      · have hsh := hsh0
        rw [if_pos e3] at hsh
        have HSH := Lib.hid hsh
        have f3 : (F1 : Int) < (F2 : Int) := by omega
        have f4 : decide (F1 < F2) = true := by simp; omega
        clear hsh hsh0 e1 e3
        go_wp2_with fail
        refine (lfloor_any o HM1.out _).mono ?_
        rw [HF1.out]
        rintro e _ ⟨rfl, rfl⟩
        go_wp2_with fail
        refine (lfloor_any p HM2.out _).mono ?_
        rw [HF2.out]
        rintro e _ ⟨rfl, rfl⟩
        go_wp2_with fail
        refine (lfloor_any p HM2.out _).mono ?_
        rw [HF2.out]
        rintro e _ ⟨rfl, rfl⟩
        go_wp2_with fail
        refine (lfloor_any o HM1.out _).mono ?_
        rw [HF1.out]
        rintro e _ ⟨rfl, rfl⟩
        go_wp2_with fail
        refine (show_any _ N _ HO.out hn HN.out (HT.out.on HB.out)).mono ?_
        rintro e w5 ⟨he, hb⟩
        rw [HSH.out, cat_right] at he
        subst he
        replace HB := Lib.hid (below_then HB.out hb)
        clear hb
        go_wp2_with fail
        refine (fixed_any _ (HT.out.on HB.out)).mono ?_
        rintro e w6 ⟨rfl, hb⟩
        go_wp2_with fail
        go_ret
        exact ⟨rfl, below_then HB.out hb⟩
      · have hsh := hsh0
        rw [if_neg e3] at hsh
        have HSH := Lib.hid hsh
        have f3 : ¬ (F1 : Int) < (F2 : Int) := by omega
        have f4 : decide (F1 < F2) = false := by simp; omega
        clear hsh hsh0 e1 e3
        go_wp2_with fail
        refine (lfloor_any o HM1.out _).mono ?_
        rw [HF1.out]
        rintro e _ ⟨rfl, rfl⟩
        go_wp2_with fail
        refine (lfloor_any p HM2.out _).mono ?_
        rw [HF2.out]
        rintro e _ ⟨rfl, rfl⟩
        go_wp2_with fail
        refine (lfloor_any p HM2.out _).mono ?_
        rw [HF2.out]
        rintro e _ ⟨rfl, rfl⟩
        go_wp2_with fail
        refine (lfloor_any o HM1.out _).mono ?_
        rw [HF1.out]
        rintro e _ ⟨rfl, rfl⟩
        go_wp2_with fail
        refine (show_any _ N _ HO.out hn HN.out (HT.out.on HB.out)).mono ?_
        rintro e w5 ⟨he, hb⟩
        rw [HSH.out, cat_left] at he
        subst he
        replace HB := Lib.hid (below_then HB.out hb)
        clear hb
        go_wp2_with fail
        refine (fixed_any _ (HT.out.on HB.out)).mono ?_
        rintro e w6 ⟨rfl, hb⟩
        go_wp2_with fail
        go_ret
        exact ⟨rfl, below_then HB.out hb⟩
  · have f1 : ((F1 : Int) == 3) = false := beq_eq_false_iff_ne.2 (by omega)
    obtain ⟨rfl, hsh0⟩ := HNO.out (by omega)
    by_cases e3 : F1 < F2
    · have hsh := hsh0
      rw [if_pos e3] at hsh
      have HSH := Lib.hid hsh
      have f3 : (F1 : Int) < (F2 : Int) := by omega
      have f4 : decide (F1 < F2) = true := by simp; omega
      clear hsh hsh0 e1 e3
      go_wp2_with fail
      refine (lfloor_any o HM1.out _).mono ?_
      rw [HF1.out]
      rintro e _ ⟨rfl, rfl⟩
      go_wp2_with fail
      refine (lfloor_any p HM2.out _).mono ?_
      rw [HF2.out]
      rintro e _ ⟨rfl, rfl⟩
      go_wp2_with fail
      refine (lfloor_any o HM1.out _).mono ?_
      rw [HF1.out]
      rintro e _ ⟨rfl, rfl⟩
      go_wp2_with fail
      refine (show_any _ N _ HO.out hn HN.out (HT.out.on HB.out)).mono ?_
      rintro e w5 ⟨he, hb⟩
      rw [HSH.out, cat_right] at he
      subst he
      replace HB := Lib.hid (below_then HB.out hb)
      clear hb
      go_wp2_with fail
      refine (fixed_any _ (HT.out.on HB.out)).mono ?_
      rintro e w6 ⟨rfl, hb⟩
      go_wp2_with fail
      go_ret
      exact ⟨rfl, below_then HB.out hb⟩
    · have hsh := hsh0
      rw [if_neg e3] at hsh
      have HSH := Lib.hid hsh
      have f3 : ¬ (F1 : Int) < (F2 : Int) := by omega
      have f4 : decide (F1 < F2) = false := by simp; omega
      clear hsh hsh0 e1 e3
      go_wp2_with fail
      refine (lfloor_any o HM1.out _).mono ?_
      rw [HF1.out]
      rintro e _ ⟨rfl, rfl⟩
      go_wp2_with fail
      refine (lfloor_any p HM2.out _).mono ?_
      rw [HF2.out]
      rintro e _ ⟨rfl, rfl⟩
      go_wp2_with fail
      refine (lfloor_any o HM1.out _).mono ?_
      rw [HF1.out]
      rintro e _ ⟨rfl, rfl⟩
      go_wp2_with fail
      refine (show_any _ N _ HO.out hn HN.out (HT.out.on HB.out)).mono ?_
      rintro e w5 ⟨he, hb⟩
      rw [HSH.out, cat_left] at he
      subst he
      replace HB := Lib.hid (below_then HB.out hb)
      clear hb
      go_wp2_with fail
      refine (fixed_any _ (HT.out.on HB.out)).mono ?_
      rintro e w6 ⟨rfl, hb⟩
      go_wp2_with fail
      go_ret
      exact ⟨rfl, below_then HB.out hb⟩
end Go.Proofs.YtcmbcbdijmknnaaDoor
