/-
  DERIVED. Layer 2: contracts of scan.word, number, sign and first: the token with which a text begins.
-/
import Derived.Test.YtgecocpcbfccgaaDoorParse
namespace Go.Proofs.YtgecocpcbfccgaaDoor
open Go.RowKit

/-- What a call that answers a token and an error comes back with. -/
def GivesTok (c : Cut) (w : World) (e : Ending) (w' : World) : Prop :=
  e = .returned (.tuple #[.agg #[.int .i64 c.kind, .string ⟨c.text.toArray⟩, .int .i64 c.n, .int .i64 0], .int .i64 c.err]) ∧ Below w.heap.size w w'
theorem givesTok_of {c c' : Cut} {w w' : World} {e : Ending} (he : e = .returned (.tuple #[.agg #[.int .i64 c'.kind, .string ⟨c'.text.toArray⟩, .int .i64 c'.n, .int .i64 0], .int .i64 c'.err])) (h : c = c') (hb : Below w.heap.size w w') : GivesTok c w e w' := by
  subst h; exact ⟨he, hb⟩

set_option maxHeartbeats 1000000 in
theorem word_any (s : ByteArray) (w : World) (hs : s.size ≤ 100000) : Calls Tryd.prog 39 #[.string s] w (GivesTok (wordCut s.data.toList) w) := by
  by_cases hl : 16 < (s.data.toList.takeWhile wrdB).length
  · have HC : Hid (wordCut s.data.toList = .no 2) := Lib.hid (by unfold wordCut; rw [if_pos hl])
    generalize ht : s.data.toList.takeWhile wrdB = t at *
    have HT := Lib.hid ht
    clear ht
    go_enter Tryd.func39, Tryd.ntmps39
    go_wp2_with fail
    refine (row_inWord s _ hs).mono ?_
    rw [HT.out]
    rintro e w' ⟨rfl, rfl⟩
    go_wp2_with fail
    exact bodyPost_ret (v := .tuple #[.agg #[.int .i64 0, .string ⟨#[]⟩, .int .i64 0, .int .i64 0], .int .i64 2]) (by simp [results, Tryd.results39, go_sem]) rfl (givesTok_of (c' := .no 2) rfl HC.out ((Below.refl _ _).alloc (Nat.le_refl _) _))
  · have HC : Hid (wordCut s.data.toList = ⟨0, 1, s.data.toList.takeWhile wrdB, 0⟩) := Lib.hid (by unfold wordCut; rw [if_neg hl])
    generalize ht : s.data.toList.takeWhile wrdB = t at *
    have HT := Lib.hid ht
    clear ht
    go_enter Tryd.func39, Tryd.ntmps39
    go_wp2_with fail
    refine (row_inWord s _ hs).mono ?_
    rw [HT.out]
    rintro e w' ⟨rfl, rfl⟩
    go_wp2_with fail
    exact bodyPost_ret (v := .tuple #[.agg #[.int .i64 1, .string ⟨t.toArray⟩, .int .i64 0, .int .i64 0], .int .i64 0]) (by simp [results, Tryd.results39, go_sem]) rfl (givesTok_of (c' := ⟨0, 1, t, 0⟩) rfl HC.out ((Below.refl _ _).alloc (Nat.le_refl _) _))

/-- What a callee that turns no old block leaves of its caller's boxes: their cells, and that they may be written. -/
theorem boxes_stay {W w1 : World} (hb : Below W.heap.size W w1) : (∀ b o, b < W.heap.size → w1.cell? ⟨b, o, none⟩ = W.cell? ⟨b, o, none⟩) ∧ (∀ b o, b < W.heap.size → w1.frozen? ⟨b, o, none⟩ = W.frozen? ⟨b, o, none⟩) := by
  constructor
  · intro b o h
    have e : ({ block := b, off := o, spot := none } : Addr).block < W.heap.size := h
    exact hb.cell e
  · intro b o h
    have e : ({ block := b, off := o, spot := none } : Addr).block < W.heap.size := h
    exact hb.frozen e
theorem below_box {w w1 : World} {o : Obj} (hb : Below (w.alloc o).heap.size (w.alloc o) w1) : Below w.heap.size w w1 :=
  ((Below.refl _ _).alloc (Nat.le_refl _) o).trans (hb.mono (by simp))
theorem below_box4 {w w1 : World} {o : Obj} (hb : Below (w.alloc o).heap.size (w.alloc o) w1) (x0 x1 x2 x3 : Value) :
    Below w.heap.size w ((((w1.setCell ⟨w.heap.size, 0, none⟩ x0).setCell ⟨w.heap.size, 1, none⟩ x1).setCell ⟨w.heap.size, 2, none⟩ x2).setCell ⟨w.heap.size, 3, none⟩ x3) :=
  ((((below_box hb).setCell (Nat.le_refl _) _).setCell (Nat.le_refl _) _).setCell (Nat.le_refl _) _).setCell (Nat.le_refl _) _
theorem val_trim (t : List UInt8) : valN (Lib.trimLeftB t 48) = valN t := by
  unfold Lib.trimLeftB
  induction t with
  | nil => rfl
  | cons c t ih =>
    by_cases h : c = 48
    · subst h
      rw [List.dropWhile_cons, if_pos (by decide), ih]
      rfl
    · rw [List.dropWhile_cons, if_neg (by simpa using h)]
theorem trim_head (t : List UInt8) : (Lib.trimLeftB t 48).head? ≠ some 48 := by
  unfold Lib.trimLeftB
  induction t with
  | nil => simp
  | cons c t ih =>
    by_cases h : c = 48
    · subst h
      rw [List.dropWhile_cons, if_pos (by decide)]; exact ih
    · rw [List.dropWhile_cons, if_neg (by simpa using h)]; simpa using h
theorem trim_all (t : List UInt8) (h : t.all digB = true) : (Lib.trimLeftB t 48).all digB = true := by
  unfold Lib.trimLeftB
  rw [List.all_eq_true] at *
  exact fun x hx => h x ((List.dropWhile_sublist _).subset hx)
theorem while_all_true (p : UInt8 → Bool) (l : List UInt8) : (l.takeWhile p).all p = true := by
  induction l with
  | nil => rfl
  | cons c l ih =>
    rw [List.takeWhile_cons]
    cases h : p c with
    | true => simp [h]
    | false => simp
/-- What words.Parse says of digits of which the first one is no 0. -/
theorem parse_digits (t : List UInt8) (h0 : t ≠ []) (ha : t.all digB = true) (hh : t.head? ≠ some 48) : parseV t = if valN t < maxN then ((valN t : Int), 0) else (0, 4) := by
  have h1 : t ≠ [48] := fun e => hh (by rw [e]; rfl)
  have h45 : (t.head? == some 45) = false := by
    cases t with
    | nil => exact absurd rfl h0
    | cons c t =>
      have hc : digB c = true := by simp at ha; exact ha.1
      rw [beq_eq_false_iff_ne]
      intro e
      simp at e
      subst e
      exact absurd hc (by decide)
  have hp : plainB t = true := by
    unfold plainB
    rw [ha]
    simp [h0, hh]
  unfold parseV
  rw [if_neg h1]
  simp only [h45, Bool.false_eq_true, if_false]
  rw [if_neg (by rw [hp]; simp)]
  by_cases hv : valN t < maxN
  · rw [if_neg (by simp; omega), if_pos hv]
  · rw [if_pos (by simp; omega), if_neg hv]

set_option maxHeartbeats 2000000 in
theorem number_any (s : ByteArray) (w : World) (hs : s.size ≤ 100000) : Calls Tryd.prog 41 #[.string s] w (GivesTok (numCut s.data.toList) w) := by
  have hall := while_all_true digB s.data.toList
  have hC : numCut s.data.toList = if 4294967296 < valN (s.data.toList.takeWhile digB) then .no 4 else ⟨0, 2, s.data.toList.takeWhile digB, valN (s.data.toList.takeWhile digB)⟩ := rfl
  generalize ht : s.data.toList.takeWhile digB = t at *
  have HT := Lib.hid ht
  have HC := Lib.hid hC
  have HA := Lib.hid (trim_all t hall)
  have HH := Lib.hid (trim_head t)
  have HV := Lib.hid (val_trim t)
  clear ht hC hall
  generalize hu : Lib.trimLeftB t 48 = u at *
  have HU := Lib.hid hu
  clear hu
  by_cases h0 : u = []
  · subst h0
    have HR : Hid (numCut s.data.toList = ⟨0, 2, t, 0⟩) := Lib.hid (by rw [HC.out, ← HV.out]; rfl)
    go_enter Tryd.func41, Tryd.ntmps41
    go_wp2_with fail
    refine (row_digit s _ hs).mono ?_
    rw [HT.out]
    rintro e w' ⟨rfl, rfl⟩
    go_wp2_with fail
    refine (Tryd.strings_TrimLeft_one _ 48 (by decide) _).mono ?_
    rintro e w' ⟨rfl, rfl⟩
    rw [show (ByteArray.mk t.toArray).data.toList = t from by simp, HU.out]
    go_wp2_with fail
    exact bodyPost_ret (v := .tuple #[.agg #[.int .i64 2, .string ⟨t.toArray⟩, .int .i64 0, .int .i64 0], .int .i64 0]) (by simp [results, Tryd.results41, go_sem]) rfl (givesTok_of (c' := ⟨0, 2, t, 0⟩) rfl HR.out ((Below.refl _ _).alloc (Nat.le_refl _) _))
  · have HP := Lib.hid (parse_digits u h0 HA.out HH.out)
    have hne : (u == []) = false := by simpa using h0
    have hne2 : u.isEmpty = false := by simpa using h0
    clear h0
    rw [HV.out] at HP
    go_enter Tryd.func41, Tryd.ntmps41
    go_wp2_with fail
    refine (row_digit s _ hs).mono ?_
    rw [HT.out]
    rintro e w' ⟨rfl, rfl⟩
    go_wp2_with fail
    refine (Tryd.strings_TrimLeft_one _ 48 (by decide) _).mono ?_
    rintro e w' ⟨rfl, rfl⟩
    rw [show (ByteArray.mk t.toArray).data.toList = t from by simp, HU.out]
    go_wp2_with fail
    refine (parse_any _ _).mono ?_
    rw [show (ByteArray.mk u.toArray).data.toList = u from by simp, HP.out]
    by_cases hv : valN t < maxN
    · rw [if_pos hv]
      rintro e w1 ⟨rfl, hb⟩
      obtain ⟨hc, hf⟩ := boxes_stay hb
      by_cases hg : 4294967296 < valN t
      · have hg2 : (4294967296 : Int) < (valN t : Int) := by omega
        have HR : Hid (numCut s.data.toList = .no 4) := Lib.hid (by rw [HC.out, if_pos hg])
        go_wp2_with fail
        exact bodyPost_ret (v := .tuple #[.agg #[.int .i64 0, .string ⟨#[]⟩, .int .i64 0, .int .i64 0], .int .i64 4]) (by simp [results, Tryd.results41, go_sem, hc]) rfl (givesTok_of (c' := .no 4) rfl HR.out (below_box4 hb _ _ _ _))
      · have hg2 : ¬ (4294967296 : Int) < (valN t : Int) := by omega
        have HR : Hid (numCut s.data.toList = ⟨0, 2, t, valN t⟩) := Lib.hid (by rw [HC.out, if_neg hg])
        go_wp2_with fail
        exact bodyPost_ret (v := .tuple #[.agg #[.int .i64 2, .string ⟨t.toArray⟩, .int .i64 (valN t), .int .i64 0], .int .i64 0]) (by simp [results, Tryd.results41, go_sem, hc]) rfl (givesTok_of (c' := ⟨0, 2, t, valN t⟩) rfl HR.out (below_box4 hb _ _ _ _))
    · rw [if_neg hv]
      rintro e w1 ⟨rfl, hb⟩
      obtain ⟨hc, hf⟩ := boxes_stay hb
      have HR : Hid (numCut s.data.toList = .no 4) := Lib.hid (by rw [HC.out, if_pos (by unfold maxN at hv; omega)])
      go_wp2_with fail
      exact bodyPost_ret (v := .tuple #[.agg #[.int .i64 0, .string ⟨#[]⟩, .int .i64 0, .int .i64 0], .int .i64 4]) (by simp [results, Tryd.results41, go_sem, hc]) rfl (givesTok_of (c' := .no 4) rfl HR.out (below_box4 hb _ _ _ _))
end Go.Proofs.YtgecocpcbfccgaaDoor
