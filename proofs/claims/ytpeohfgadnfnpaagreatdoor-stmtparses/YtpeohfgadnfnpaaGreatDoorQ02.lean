/-
  DERIVED. Texts of the walk, packed: Plain, Byte, Row, Base.
-/
import Derived.Test.YtpeohfgadnfnpaaGreatDoorQ01
import Derived.Test.YtpeohfgadnfnpaaGreatDoorProg
import Derived.WalkKit
import Derived.WalkSpells
import Derived.WalkLawsBesides
import Derived.KernelRfl
import Derived.Lib.Hide
import Derived.WalkMore
import Derived.Deep.Cut
import Derived.Deep.QuietTactic
import Derived.BigQuiet
/-
  DERIVED. Layer 3: kept words, names, what stands at a place: nothing of the program in it.
-/
namespace Go.Proofs.YtpeohfgadnfnpaaGreatDoor

theorem valFrom_append (n : Nat) (l m : List UInt8) : valFrom n (l ++ m) = valFrom (valFrom n l) m := by
  simp [valFrom, List.foldl_append]
theorem valN_snoc (l : List UInt8) (c : UInt8) : valN (l ++ [c]) = valN l * 10 + (c.toNat - 48) := by
  unfold valN; rw [valFrom_append]; rfl
/-- The words that are kept. -/
def keptTab : List (List UInt8) := [[108, 105, 110, 101], [118, 111, 108], [108, 111, 99, 107], [116, 104, 114, 101, 97, 100], [114, 101, 103], [108, 111, 97, 100], [115, 116, 111, 114, 101], [99, 97, 115], [102, 108, 117, 115, 104], [111, 112, 116], [115, 102, 101, 110, 99, 101], [109, 102, 101, 110, 99, 101], [116, 97, 107, 101], [103, 105, 118, 101], [105, 102], [101, 108, 115, 101], [108, 111, 111, 112], [98, 114, 101, 97, 107], [99, 104, 101, 99, 107], [114, 101, 99, 111, 118, 101, 114], [97, 108, 119, 97, 121, 115]]
def keptB (l : List UInt8) : Bool := keptTab.any (fun t => t == l)
/-- Is a text a name? -/
def nameB (l : List UInt8) : Bool := !l.isEmpty && decide (l.length ≤ 16) && l.head?.any letB && l.all wrdB && !keptB l
theorem while_same (p : UInt8 → Bool) (l : List UInt8) : (l.takeWhile p == l) = l.all p := by
  induction l with
  | nil => rfl
  | cons c l ih =>
    rw [List.takeWhile_cons]
    cases h : p c with
    | true => simp only [if_true, List.all_cons, h, Bool.true_and]; rw [← ih]; simp
    | false => simp [h]
/-- Does a word, or a sign, stand at a place; where a token stands. -/
def isB (L : List Tok) (i : Int) (s : List UInt8) : Bool := decide (0 ≤ i) && (L[i.toNat]?).any (fun t => (t.kind == 1 || t.kind == 3) && t.text == s)
def placeV (L : List Tok) (i : Int) : Int := match (if 0 ≤ i then L[i.toNat]? else none) with
  | some t => t.pl
  | none => match L.getLast? with
    | some t => t.pl + t.text.length
    | none => 0
/-- Places and texts that are not too great. -/
def SmallT (L : List Tok) : Prop := ∀ t ∈ L, t.pl ≤ 100000 ∧ t.text.length ≤ 100000
theorem place_in {L : List Tok} {k : Nat} {a : Tok} (ha : L[k]? = some a) : placeV L k = a.pl := by
  unfold placeV; rw [if_pos (by omega), Int.toNat_natCast, ha]
theorem place_out {L : List Tok} {i : Int} {a : Tok} (hi : ¬ (0 ≤ i ∧ i < L.length)) (ha : L[L.length - 1]? = some a) : placeV L i = a.pl + a.text.length := by
  have e : (if 0 ≤ i then L[i.toNat]? else none) = none := by
    by_cases h : 0 ≤ i
    · rw [if_pos h]; exact List.getElem?_eq_none (by omega)
    · rw [if_neg h]
  unfold placeV
  rw [e, List.getLast?_eq_getElem?, ha]
theorem place_nil (i : Int) : placeV [] i = 0 := by
  unfold placeV
  have e : (if 0 ≤ i then ([] : List Tok)[i.toNat]? else none) = none := by simp
  rw [e]; rfl

def wordB (l : List UInt8) : Bool := !l.isEmpty && decide (l.length ≤ 16) && l.head?.any letB && l.all wrdB
theorem kept_word : ∀ t ∈ keptTab, wordB t = true := by decide
theorem kept_mem {l : List UInt8} (h : keptB l = true) : l ∈ keptTab := by
  unfold keptB at h
  rw [List.any_eq_true] at h
  obtain ⟨t, ht, e⟩ := h
  simp at e; subst e; exact ht
theorem name_or_kept (l : List UInt8) : (nameB l || keptB l) = wordB l := by
  cases hk : keptB l with
  | true => rw [Bool.or_true, kept_word l (kept_mem hk)]
  | false => unfold nameB wordB; rw [hk]; simp
theorem name_not_kept (l : List UInt8) : (nameB l && keptB l) = false := by
  unfold nameB
  cases keptB l <;> simp
theorem word_one {l : List UInt8} (h : wordB l = true) : scanL l 0 = .fine [⟨1, l, 0, 0⟩] := by
  cases l with
  | nil => exact absurd h (by decide)
  | cons c r =>
    unfold wordB at h
    simp only [Bool.and_eq_true, decide_eq_true_eq] at h
    obtain ⟨⟨⟨_, h1⟩, h2⟩, h3⟩ := h
    have hc : letB c = true := by simpa using h2
    have e1 : (c :: r).takeWhile wrdB = c :: r := by
      have := while_same wrdB (c :: r)
      rw [h3] at this
      simpa using this
    have e2 : cutOf (c :: r) = ⟨0, 1, c :: r, 0⟩ := by
      rw [cutOf_word r hc]
      unfold wordCut
      rw [e1, if_neg (by omega)]
    obtain ⟨c', r', ht, hb, hx⟩ := good_head (t := ⟨1, c :: r, 0, 0⟩) ⟨e2, by simp⟩
    simp only [List.cons.injEq] at ht
    obtain ⟨rfl, rfl⟩ := ht
    obtain ⟨g1, g2⟩ := hx [] (.inl rfl)
    rw [List.append_nil] at g1 g2
    rw [scanL_tok r 0 hb g1 (by rw [e2]), e2]
    simp only
    rw [List.drop_length, scanL_nil, pre_fine]; rfl
theorem good_word {t : Tok} (h : Good t) (hk : t.kind = 1) : wordB t.text = true := by
  obtain ⟨hc, hn⟩ := h
  cases ht : t.text with
  | nil => exact absurd ht hn
  | cons c r =>
    rw [ht, hk] at hc
    cases h1 : letB c with
    | true =>
      rw [cutOf_word r h1] at hc
      obtain ⟨h2, h3⟩ := word_ok (l := c :: r) (by rw [hc])
      rw [h3] at hc
      have e : (c :: r).takeWhile wrdB = c :: r := congrArg Cut.text hc
      have e2 : (c :: r).all wrdB = true := by rw [← while_same, e]; simp
      rw [e] at h2
      unfold wordB
      rw [e2]
      simp [h1]
      simpa using h2
    | false =>
      cases h2 : digB c with
      | true =>
        rw [cutOf_num r h1 h2] at hc
        have := (num_ok (l := c :: r) (by rw [hc])).2
        rw [this] at hc
        exact absurd (congrArg Cut.kind hc) (by simp)
      | false =>
        rw [cutOf_sign r h1 h2] at hc
        obtain ⟨t', _, e⟩ := sign_ok (l := c :: r) (by rw [hc])
        rw [e] at hc
        exact absurd (congrArg Cut.kind hc) (by simp)
def PlacesOK (l : List UInt8) : Nat → List Tok → Prop
  | _, [] => True
  | e, t :: L => e ≤ t.pl ∧ 1 ≤ t.text.length ∧ t.pl + t.text.length ≤ l.length ∧ (l.drop t.pl).take t.text.length = t.text ∧ (t.kind = 1 ∨ t.kind = 2 ∨ t.kind = 3) ∧ (t.n ≠ 0 → t.kind = 2) ∧ 0 ≤ t.n ∧ t.n ≤ 4294967296 ∧ PlacesOK l (t.pl + t.text.length) L
theorem places_mono {l : List UInt8} : ∀ {L : List Tok} {e e' : Nat}, e' ≤ e → PlacesOK l e L → PlacesOK l e' L
  | [], _, _, _, _ => trivial
  | _ :: _, _, _, h, hp => ⟨Nat.le_trans h hp.1, hp.2⟩
theorem cut_kinds {m : List UInt8} (h : (cutOf m).err = 0) : ((cutOf m).kind = 1 ∨ (cutOf m).kind = 2 ∨ (cutOf m).kind = 3) ∧ ((cutOf m).n ≠ 0 → (cutOf m).kind = 2) ∧ 0 ≤ (cutOf m).n ∧ (cutOf m).n ≤ 4294967296 := by
  cases m with
  | nil => exact absurd h (by decide)
  | cons c r =>
    cases h1 : letB c with
    | true =>
      rw [cutOf_word r h1] at *
      rw [(word_ok h).2]; exact ⟨.inl rfl, fun h => absurd rfl h, Int.le_refl _, by simp⟩
    | false =>
      cases h2 : digB c with
      | true =>
        rw [cutOf_num r h1 h2] at *
        obtain ⟨h3, h4⟩ := num_ok h
        rw [h4]
        exact ⟨.inr (.inl rfl), fun _ => rfl, Int.natCast_nonneg _, by show ((valN _ : Nat) : Int) ≤ _; omega⟩
      | false =>
        rw [cutOf_sign r h1 h2] at *
        obtain ⟨t', _, e⟩ := sign_ok h
        rw [e]; exact ⟨.inr (.inr rfl), fun h => absurd rfl h, Int.le_refl _, by simp⟩
theorem places_pure (l : List UInt8) : ∀ (m : List UInt8) (a : Nat), a ≤ l.length → l.drop a = m → PlacesOK l a (scanL m a).toks := by
  refine scan_ind (fun a _ _ => ?_) (fun c r a h ih ha hd => ?_) (fun c r a h h2 ih ha hd => ?_) (fun c r a h h2 h3 ih ha hd => ?_) (fun c r a h h2 h3 _ _ => ?_)
  · rw [scanL_nil]; trivial
  · rw [scanL_blank r a h]
    have hl := congrArg List.length hd
    simp only [List.length_drop, List.length_cons] at hl
    exact places_mono (Nat.le_succ a) (ih (by omega) (by rw [← List.drop_drop, hd]; rfl))
  · rw [scanL_rem r a h h2]
    have hl := congrArg List.length hd
    have h4 : ((c :: r).takeWhile linB).length ≤ (c :: r).length := (List.takeWhile_sublist _).length_le
    simp only [List.length_drop] at hl
    exact places_mono (Nat.le_add_right a _) (ih (by omega) (by rw [← List.drop_drop, hd]))
  · rw [scanL_tok r a h h2 h3]
    have hl := congrArg List.length hd
    simp only [List.length_drop] at hl
    have e := cut_ok h3
    have e1 := e.1.length_le
    have e3 := cut_kinds h3
    have ih' := ih (by omega) (by rw [← List.drop_drop, hd])
    unfold Found.pre
    by_cases he : (scanL ((c :: r).drop (cutOf (c :: r)).text.length) (a + (cutOf (c :: r)).text.length)).err = 0
    · rw [if_pos he]
      refine ⟨Nat.le_refl _, e.2, by simp only; omega, ?_, e3.1, e3.2.1, e3.2.2.1, e3.2.2.2, ih'⟩
      simp only
      rw [hd]
      exact (List.prefix_iff_eq_take.1 e.1).symm
    · rw [if_neg he]; trivial
  · rw [scanL_bad r a h h2 h3]; trivial
end Go.Proofs.YtpeohfgadnfnpaaGreatDoor
/-
  DERIVED. Layer 3: contracts of the functions that tell what a byte is.
-/
namespace Go.Proofs.YtpeohfgadnfnpaaGreatDoor
open Go.RowKit

theorem ret_bool {a b : Bool} (h : a = b) : Ending.returned (.bool a) = .returned (.bool b) := by rw [h]
/-- What a function of one truth comes back with; the world is as it was. -/
def Tells (b : Bool) (w : World) (e : Ending) (w' : World) : Prop := e = .returned (.bool b) ∧ w = w'

theorem letter_any (c : UInt8) (w : World) : Calls Tryz.prog 109 #[.int .u8 c.toNat] w (Tells (letB c) w) := by
  go_enter Tryz.func109, Tryz.ntmps109
  go_wp2
  all_goals
    go_ret
    refine ⟨ret_bool ?_, rfl⟩
    rw [Bool.eq_iff_iff]; simp [letB]; omega
theorem digit_any (c : UInt8) (w : World) : Calls Tryz.prog 127 #[.int .u8 c.toNat] w (Tells (digB c) w) := by
  go_enter Tryz.func127, Tryz.ntmps127
  go_wp2
  all_goals
    go_ret
    refine ⟨ret_bool ?_, rfl⟩
    rw [Bool.eq_iff_iff]; simp [digB]; omega
theorem rletter_any (c : UInt8) (w : World) : Calls Tryz.prog 41 #[.int .u8 c.toNat] w (Tells (letB c) w) := by
  go_enter Tryz.func41, Tryz.ntmps41
  go_wp2
  all_goals
    go_ret
    refine ⟨ret_bool ?_, rfl⟩
    rw [Bool.eq_iff_iff]; simp [letB]; omega
theorem rdigit_any (c : UInt8) (w : World) : Calls Tryz.prog 42 #[.int .u8 c.toNat] w (Tells (digB c) w) := by
  go_enter Tryz.func42, Tryz.ntmps42
  go_wp2
  all_goals
    go_ret
    refine ⟨ret_bool ?_, rfl⟩
    rw [Bool.eq_iff_iff]; simp [digB]; omega
theorem wrd_let {c : UInt8} (h : letB c = true) : wrdB c = true := by unfold wrdB; rw [h]; rfl
theorem wrd_not {c : UInt8} (h : letB c = false) : wrdB c = digB c := by unfold wrdB; rw [h]; rfl
theorem inWord_any (c : UInt8) (w : World) : Calls Tryz.prog 111 #[.int .u8 c.toNat] w (Tells (wrdB c) w) := by
  cases h : letB c with
  | true =>
    have HW := Lib.hid (wrd_let h)
    have H := Lib.hid h
    clear h
    go_enter Tryz.func111, Tryz.ntmps111
    go_wp2_with fail
    refine (letter_any c _).mono ?_
    rw [H.out]
    rintro e w' ⟨rfl, rfl⟩
    go_wp2_with fail
    go_ret
    exact ⟨ret_bool HW.out.symm, rfl⟩
  | false =>
    have HW := Lib.hid (wrd_not h)
    have H := Lib.hid h
    clear h
    go_enter Tryz.func111, Tryz.ntmps111
    go_wp2_with fail
    refine (letter_any c _).mono ?_
    rw [H.out]
    rintro e w' ⟨rfl, rfl⟩
    go_wp2_with fail
    refine (digit_any c _).mono ?_
    rintro e w' ⟨rfl, rfl⟩
    go_wp2_with fail
    go_ret
    exact ⟨ret_bool HW.out.symm, rfl⟩
end Go.Proofs.YtpeohfgadnfnpaaGreatDoor
/-
  DERIVED. Layer 3: the contract of scan.row.
-/
namespace Go.Proofs.YtpeohfgadnfnpaaGreatDoor
open Go.RowKit

theorem len_data (s : ByteArray) : s.data.toList.length = s.size := rfl
theorem take_snoc (s : ByteArray) (k : Nat) (h : k < s.size) : s.data.toList.take (k + 1) = s.data.toList.take k ++ [s[k]] := by
  rw [List.take_succ_eq_append_getElem (by simpa using h)]; rfl
theorem take_all (s : ByteArray) (k : Nat) (h : ¬ k < s.size) : s.data.toList.take k = s.data.toList :=
  List.take_of_length_le (by simp; show s.size ≤ k; omega)
theorem drop_at (s : ByteArray) (k : Nat) (h : k < s.size) : s.data.toList.drop k = s[k] :: s.data.toList.drop (k + 1) := by
  rw [List.drop_eq_getElem_cons (by rw [len_data]; exact h)]; rfl
theorem bytes_ext {a b : ByteArray} (h : a.data.toList = b.data.toList) : a = b := by
  cases a with | mk a => cases b with | mk b => cases a; cases b; simp at h; subst h; rfl
theorem extract_take (s : ByteArray) (k : Nat) : s.extract 0 k = ⟨(s.data.toList.take k).toArray⟩ := by
  apply bytes_ext
  simp [ByteArray.data_extract, List.extract_eq_take_drop]
theorem extract_drop (s : ByteArray) (k : Nat) : (s.extract k s.size).data.toList = s.data.toList.drop k := by
  rw [ByteArray.data_extract, Array.toList_extract, List.extract_eq_take_drop, List.take_of_length_le (by simp)]
theorem while_stop (p : UInt8 → Bool) (s : ByteArray) (k : Nat) (h : k < s.size) (ha : (s.data.toList.take k).all p = true) (hp : p s[k] = false) : s.data.toList.takeWhile p = s.data.toList.take k := by
  have e : s.data.toList = s.data.toList.take k ++ s[k] :: s.data.toList.drop (k + 1) := by rw [← drop_at s k h, List.take_append_drop]
  generalize s.data.toList.take k = a at *
  generalize s.data.toList.drop (k + 1) = b at *
  rw [e, List.takeWhile_append_of_pos (by simpa using ha), List.takeWhile_cons, if_neg (by rw [hp]; simp)]; simp
theorem while_all (p : UInt8 → Bool) (s : ByteArray) (k : Nat) (h : ¬ k < s.size) (ha : (s.data.toList.take k).all p = true) : s.data.toList.takeWhile p = s.data.toList.take k := by
  rw [take_all s k h] at *
  generalize s.data.toList = l at *
  have := List.takeWhile_append_of_pos (l₁ := l) (l₂ := []) (p := p) (by simpa using ha)
  simpa using this
theorem all_snoc (p : UInt8 → Bool) (s : ByteArray) (k : Nat) (h : k < s.size) (ha : (s.data.toList.take k).all p = true) (hp : p s[k] = true) : (s.data.toList.take (k + 1)).all p = true := by
  rw [take_snoc s k h, List.all_append, ha]; simp [hp]
def GivesS (l : List UInt8) (w : World) (e : Ending) (w' : World) : Prop := e = .returned (.string ⟨l.toArray⟩) ∧ w = w'
theorem givesS_of {l l' : List UInt8} {w : World} {e : Ending} {u : ByteArray} (he : e = .returned (.string u)) (h : u = ⟨l'.toArray⟩) (h2 : l = l') : GivesS l w e w := by
  subst h; subst h2; exact ⟨he, rfl⟩

set_option maxHeartbeats 1000000 in
theorem row_inWord (s : ByteArray) (w : World) (hs : s.size ≤ 100000) : Calls Tryz.prog 110 #[.string s, .func (.func 111) #[] #[]] w (GivesS (s.data.toList.takeWhile wrdB) w) := by
  go_enter Tryz.func110, Tryz.ntmps110
  go_wp2_with fail
  go_loop [5] (fun i => ∃ k : Nat, k ≤ s.size ∧ i = .int .i64 k ∧ (s.data.toList.take k).all wrdB = true) (fun i => s.size - (intOf i).toNat)
  case atStart => exact ⟨0, Nat.zero_le _, rfl, rfl⟩
  case round =>
    obtain ⟨k, hk, rfl, ha⟩ := hrel
    have HA := Lib.hid ha
    clear ha
    by_cases hlt : k < s.size
    · cases hp : wrdB (s[k]'hlt) with
      | true =>
        have HS := Lib.hid (all_snoc wrdB s k hlt HA.out hp)
        have HP := Lib.hid hp
        clear hp
        go_wp2_with fail
        refine (inWord_any (s[k]'hlt) _).mono ?_
        rw [HP.out]
        rintro e w' ⟨rfl, rfl⟩
        go_wp2_with fail
        go_round
        case rel => exact ⟨k + 1, by omega, by go_num, HS.out⟩
        case measure => simp [intOf]; omega
      | false =>
        have HS := Lib.hid (while_stop wrdB s k hlt HA.out hp)
        have HP := Lib.hid hp
        clear hp
        go_wp2_with fail
        refine (inWord_any (s[k]'hlt) _).mono ?_
        rw [HP.out]
        rintro e w' ⟨rfl, rfl⟩
        go_wp2_with fail
        go_ret
        exact givesS_of rfl (extract_take s k) HS.out
    · have HS := Lib.hid (while_all wrdB s k hlt HA.out)
      go_wp2_with fail
      go_ret
      exact givesS_of rfl (extract_take s k) HS.out
end Go.Proofs.YtpeohfgadnfnpaaGreatDoor
/-
  DERIVED. Layer 3: slices of tokens: those of a call that made them, those that are read.
-/
namespace Go.Proofs.YtpeohfgadnfnpaaGreatDoor
open Go.RowKit

theorem below_then {w w1 w2 : World} (h : Below w.heap.size w w1) (k : Below w1.heap.size w1 w2) : Below w.heap.size w w2 := h.trans (k.mono h.size)
/-- What a callee that turns no old block leaves of its caller's boxes: their cells, and that they may be written. -/
theorem boxes_stay {W w1 : World} (hb : Below W.heap.size W w1) : (∀ b o, b < W.heap.size → w1.cell? ⟨b, o, none⟩ = W.cell? ⟨b, o, none⟩) ∧ (∀ b o, b < W.heap.size → w1.frozen? ⟨b, o, none⟩ = W.frozen? ⟨b, o, none⟩) := by
  constructor
  · intro b o h
    have e : ({ block := b, off := o, spot := none } : Addr).block < W.heap.size := h
    exact hb.cell e
  · intro b o h
    have e : ({ block := b, off := o, spot := none } : Addr).block < W.heap.size := h
    exact hb.frozen e
theorem below_box {w w1 : World} {o : Obj} (hb : Below (w.alloc o).heap.size (w.alloc o) w1) : Below w.heap.size w w1 :=
  ((Below.refl _ _).alloc (Nat.le_refl _) o).trans (hb.mono (by simp))
theorem below_box4 {w w1 : World} {o : Obj} (hb : Below (w.alloc o).heap.size (w.alloc o) w1) (x0 x1 x2 x3 : Value) :
    Below w.heap.size w ((((w1.setCell ⟨w.heap.size, 0, none⟩ x0).setCell ⟨w.heap.size, 1, none⟩ x1).setCell ⟨w.heap.size, 2, none⟩ x2).setCell ⟨w.heap.size, 3, none⟩ x3) :=
  ((((below_box hb).setCell (Nat.le_refl _) _).setCell (Nat.le_refl _) _).setCell (Nat.le_refl _) _).setCell (Nat.le_refl _) _
theorem below_set4 {w w1 : World} (hb : Below w.heap.size w w1) {g : Nat} (hg : w.heap.size ≤ g) (x0 x1 x2 x3 : Value) :
    Below w.heap.size w ((((w1.setCell ⟨g, 0, none⟩ x0).setCell ⟨g, 1, none⟩ x1).setCell ⟨g, 2, none⟩ x2).setCell ⟨g, 3, none⟩ x3) :=
  (((hb.setCell hg _).setCell hg _).setCell hg _).setCell hg _

/-- The cells of a token, of tokens. -/
def tokCells (t : Tok) : List Value := [.int .i64 t.kind, .string ⟨t.text.toArray⟩, .int .i64 t.n, .int .i64 t.pl]
def cellsT (L : List Tok) : List Value := L.flatMap tokCells
theorem cellsT_snoc (L : List Tok) (t : Tok) : cellsT (L ++ [t]) = cellsT L ++ tokCells t := by simp [cellsT]
/-- A slice that the call made itself, and that holds just these tokens. -/
def OwnT (w : World) (B : Nat) (v : Value) (L : List Tok) : Prop := w.ownsRow B 52 4 v L.length (cellsT L)
/-- What a call comes back with that answers tokens, an error and a place. -/
def GivesF (f : Found) (w : World) (e : Ending) (w' : World) : Prop :=
  ∃ v, e = .returned (.tuple #[v, .int .i64 f.err, .int .i64 f.pl]) ∧ OwnT w' w.heap.size v f.toks ∧ Below w.heap.size w w'

theorem info31 : (Tryz.prog.info? 52).map (fun i => (i.zero, i.size, i.bytes)) = some (some (.agg #[.int .i64 0, .string ⟨#[]⟩, .int .i64 0, .int .i64 0]), 4, 40) := by kernel_rfl

theorem own_on {w w' : World} {B : Nat} {v : Value} {L : List Tok} (h : OwnT w B v L) (hb : Below w.heap.size w w') : OwnT w' B v L := by
  obtain ⟨h1, h2⟩ := h
  refine ⟨h1, ?_⟩
  rcases h2 with h2 | ⟨g, cap, cur, hv, hg, hh, r⟩
  · exact .inl h2
  · exact .inr ⟨g, cap, cur, hv, hg, (hb.block g (Array.getElem?_eq_some_iff.1 hh).1).trans hh, r⟩

/-! What a round does to what is still to be found. -/
theorem inv_blank {l : List UInt8} {k : Nat} {c : UInt8} {L : List Tok} {R : Found} (hd : l.drop k = c :: l.drop (k + 1)) (hb : blkB c = true) (hI : (scanL (l.drop k) k).pre L = R) : (scanL (l.drop (k + 1)) (k + 1)).pre L = R := by
  rw [hd, scanL_blank _ _ hb] at hI; exact hI
theorem inv_rem {l : List UInt8} {k : Nat} {c : UInt8} {L : List Tok} {R : Found} (hd : l.drop k = c :: l.drop (k + 1)) (hb : blkB c = false) (hr : isRem (l.drop k) = true) (hI : (scanL (l.drop k) k).pre L = R) :
    (scanL (l.drop (k + ((l.drop k).takeWhile linB).length)) (k + ((l.drop k).takeWhile linB).length)).pre L = R := by
  rw [← List.drop_drop]
  rw [hd] at *
  rw [scanL_rem _ _ hb hr] at hI; exact hI
theorem inv_tok {l : List UInt8} {k : Nat} {c : UInt8} {L : List Tok} {R : Found} (hd : l.drop k = c :: l.drop (k + 1)) (hb : blkB c = false) (hr : isRem (l.drop k) = false) (he : (cutOf (l.drop k)).err = 0) (hI : (scanL (l.drop k) k).pre L = R) :
    (scanL (l.drop (k + (cutOf (l.drop k)).text.length)) (k + (cutOf (l.drop k)).text.length)).pre (L ++ [⟨(cutOf (l.drop k)).kind, (cutOf (l.drop k)).text, (cutOf (l.drop k)).n, k⟩]) = R := by
  rw [← List.drop_drop]
  rw [hd] at *
  rw [scanL_tok _ _ hb hr he, pre_pre] at hI; exact hI
theorem inv_bad {l : List UInt8} {k : Nat} {c : UInt8} {L : List Tok} {R : Found} (hd : l.drop k = c :: l.drop (k + 1)) (hb : blkB c = false) (hr : isRem (l.drop k) = false) (he : (cutOf (l.drop k)).err ≠ 0) (hI : (scanL (l.drop k) k).pre L = R) :
    R = .fail (cutOf (l.drop k)).err k := by
  rw [hd] at *
  rw [scanL_bad _ _ hb hr he, pre_fail _ _ _ he] at hI; exact hI.symm
theorem inv_end {l : List UInt8} {k : Nat} {L : List Tok} {R : Found} (hd : l.length ≤ k) (hI : (scanL (l.drop k) k).pre L = R) : R = .fine L := by
  rw [List.drop_eq_nil_of_le hd, scanL_nil, pre_fine] at hI; simpa using hI.symm
theorem while_le (p : UInt8 → Bool) (l : List UInt8) : (l.takeWhile p).length ≤ l.length := (List.takeWhile_sublist p).length_le
/-- What is left of a text at a place. -/
theorem rest_at (s : ByteArray) (k : Nat) (h : k < s.size) : (s.extract k s.size).size = s.size - k ∧ ∃ h0 : 0 < (s.extract k s.size).size, (s.extract k s.size)[0] = s[k] := by
  have h1 : (s.extract k s.size).size = s.size - k := by simp
  refine ⟨h1, by omega, ?_⟩
  have := ByteArray.getElem_extract (b := s) (start := k) (stop := s.size) (i := 0) (by rw [h1]; omega)
  simpa using this
/-- A box of four cells that has been filled, and its last cell once more. -/
def boxW (w1 : World) (g : Nat) (a b c d e : Value) : World :=
  ((((w1.setCell ⟨g, 0, none⟩ a).setCell ⟨g, 1, none⟩ b).setCell ⟨g, 2, none⟩ c).setCell ⟨g, 3, none⟩ d).setCell ⟨g, 3, none⟩ e
theorem boxW_facts {wr w1 : World} {z0 z1 z2 z3 : Value} (hb : Below (wr.alloc (.cells #[z0, z1, z2, z3] 52)).heap.size (wr.alloc (.cells #[z0, z1, z2, z3] 52)) w1) (a b c d e : Value) :
    (boxW w1 wr.heap.size a b c d e).cell? ⟨wr.heap.size, 0, none⟩ = some a ∧ (boxW w1 wr.heap.size a b c d e).cell? ⟨wr.heap.size, 1, none⟩ = some b ∧ (boxW w1 wr.heap.size a b c d e).cell? ⟨wr.heap.size, 2, none⟩ = some c ∧
    (boxW w1 wr.heap.size a b c d e).cell? ⟨wr.heap.size, 3, none⟩ = some e ∧ Below wr.heap.size wr (boxW w1 wr.heap.size a b c d e) ∧ wr.heap.size < (boxW w1 wr.heap.size a b c d e).heap.size := by
  obtain ⟨hc, hf⟩ := boxes_stay hb
  have hz3 : wr.heap.size < w1.heap.size := by have := hb.size; simp at this; omega
  have d0 := hc wr.heap.size 0 (by simp)
  have d1 := hc wr.heap.size 1 (by simp)
  have d2 := hc wr.heap.size 2 (by simp)
  have d3 := hc wr.heap.size 3 (by simp)
  unfold boxW
  refine ⟨by simp [go_sem, d0], by simp [go_sem, d1], by simp [go_sem, d2], World.cell?_setCell_same (u := d) _ _ _ (by simp [go_sem, d3]), (below_set4 (below_box hb) (Nat.le_refl _) _ _ _ _).setCell (Nat.le_refl _) _, by simp only [World.setCell, Array.size_modify]; exact hz3⟩
theorem own_block {w : World} {B : Nat} {v : Value} {L : List Tok} (h : OwnT w B v L) : ∀ g, v.ownBlock = some g → B ≤ g ∧ g < w.heap.size := by
  intro g hg
  rcases h.2 with ⟨rfl, _⟩ | ⟨g', cap, cur, rfl, hB, hh, _⟩
  · simp [Value.ownBlock] at hg
  · simp [Value.ownBlock] at hg
    subst hg
    exact ⟨hB, (Array.getElem?_eq_some_iff.1 hh).1⟩
/-- Behind an append of one token. -/
theorem after_append {w wr W2 w3 : World} {v v' : Value} {L : List Tok} {t : Tok} {o : Obj} (hO : OwnT wr w.heap.size v L) (hB : Below w.heap.size w wr) (hBW : Below wr.heap.size wr W2) (hsz : wr.heap.size < W2.heap.size)
    (hown' : w3.ownsRow w.heap.size 52 4 v' (L.length + 1) (cellsT L ++ tokCells t)) (hg : (W2.alloc o).grownBy w3 v.ownBlock) :
    OwnT w3 w.heap.size v' (L ++ [t]) ∧ Below w.heap.size w w3 ∧ (∀ j u, W2.cell? ⟨wr.heap.size, j, none⟩ = some u → w3.cell? ⟨wr.heap.size, j, none⟩ = some u) := by
  have hz := hB.size
  refine ⟨?_, ?_, fun j u hu => ?_⟩
  · unfold OwnT
    rw [cellsT_snoc, List.length_append]; exact hown'
  · exact ((hB.trans (hBW.mono hz)).alloc (by have := hBW.size; omega) o).grown hg (by simp; have := hBW.size; omega) (fun k hk => (own_block hO k hk).1)
  · have h1 : (W2.alloc o).cell? ⟨wr.heap.size, j, none⟩ = some u := by
      rw [World.cell?_alloc_lt W2 o _ (by exact hsz)]; exact hu
    rw [← h1]
    exact World.cell?_of_block (hg.block _ (by simp; omega) (fun e => by have := (own_block hO _ e.symm).2; simp at this))
theorem tok_cells {W2 : World} (t : Tok) : ∀ j u, (tokCells t)[j]? = some u → (W2.alloc (.cells #[.int .i64 t.kind, .string ⟨t.text.toArray⟩, .int .i64 t.n, .int .i64 t.pl] 52)).cell? ((⟨W2.heap.size, 0, none⟩ : Addr).add j) = some u := by
  intro j u hu
  match j, hu with
  | 0, hu => simp [tokCells] at hu; subst hu; simp [Addr.add]
  | 1, hu => simp [tokCells] at hu; subst hu; simp [Addr.add]
  | 2, hu => simp [tokCells] at hu; subst hu; simp [Addr.add]
  | 3, hu => simp [tokCells] at hu; subst hu; simp [Addr.add]
  | n + 4, hu => simp [tokCells] at hu
theorem tok_one (t : Tok) : ∀ u ∈ tokCells t, u.oneCell' = true := by
  intro u hu
  simp [tokCells] at hu
  rcases hu with rfl | rfl | rfl | rfl <;> rfl
theorem givesF_of {f f' : Found} {w w' : World} {e : Ending} {v : Value} (he : e = .returned (.tuple #[v, .int .i64 f'.err, .int .i64 f'.pl])) (h : f = f') (ho : OwnT w' w.heap.size v f'.toks) (hb : Below w.heap.size w w') : GivesF f w e w' := by
  subst h; exact ⟨v, he, ho, hb⟩
theorem own_nil (w : World) (B : Nat) : OwnT w B (.slice none 0 0) [] := World.ownsRow_nil _ _ _ _


/-- A slice that reads as these tokens, and lies in old memory. -/
def ReadT (w : World) (v : Value) (L : List Tok) : Prop :=
  ∃ A c, v = .slice A L.length c ∧ L.length ≤ c ∧ (∀ i t, L[i]? = some t → ∃ g, A = some ⟨g, 0, none⟩ ∧ g < w.heap.size ∧
    w.cell? ⟨g, i * 4, none⟩ = some (.int .i64 t.kind) ∧ w.cell? ⟨g, i * 4 + 1, none⟩ = some (.string ⟨t.text.toArray⟩) ∧ w.cell? ⟨g, i * 4 + 2, none⟩ = some (.int .i64 t.n) ∧ w.cell? ⟨g, i * 4 + 3, none⟩ = some (.int .i64 t.pl))
theorem cellsT_len (L : List Tok) : (cellsT L).length = 4 * L.length := by
  induction L with
  | nil => rfl
  | cons t L ih => unfold cellsT at *; rw [List.flatMap_cons, List.length_append, ih]; simp [tokCells]; omega
theorem cellsT_at : ∀ (L : List Tok) (i : Nat) (t : Tok) (j : Nat) (u : Value), L[i]? = some t → (tokCells t)[j]? = some u → (cellsT L)[i * 4 + j]? = some u
  | [], i, t, j, u, h, _ => by simp at h
  | a :: L, 0, t, j, u, h, hj => by
    simp at h; subst h
    unfold cellsT
    rw [List.flatMap_cons, List.getElem?_append_left (by have := (List.getElem?_eq_some_iff.1 hj).1; omega)]
    simpa using hj
  | a :: L, i + 1, t, j, u, h, hj => by
    have ih := cellsT_at L i t j u (by simpa using h) hj
    unfold cellsT at *
    rw [List.flatMap_cons, List.getElem?_append_right (by simp [tokCells]; omega)]
    rw [← ih]; congr 1; simp [tokCells]; omega
theorem OwnT.read {w : World} {B : Nat} {v : Value} {L : List Tok} (h : OwnT w B v L) : ReadT w v L := by
  rcases h.2 with ⟨rfl, h0⟩ | ⟨g, cap, cur, rfl, hB, hh, hn, hm, hs, hc⟩
  · have : L = [] := List.length_eq_zero_iff.1 h0
    subst this
    exact ⟨none, 0, rfl, Nat.le_refl _, fun i t h => by simp at h⟩
  · refine ⟨_, cap, rfl, hn, fun i t hi => ⟨g, rfl, (Array.getElem?_eq_some_iff.1 hh).1, ?_⟩⟩
    have key : ∀ j u, (tokCells t)[j]? = some u → w.cell? ⟨g, i * 4 + j, none⟩ = some u := by
      intro j u hj
      have h1 := cellsT_at L i t j u hi hj
      have hlt := (List.getElem?_eq_some_iff.1 h1).1
      rw [cellsT_len] at hlt
      rw [cell_of_row w g _ cur 52 (0, 0) hh]
      rw [← hc, List.getElem?_take, if_pos (by omega)] at h1
      simpa using h1
    exact ⟨key 0 _ rfl, key 1 _ rfl, key 2 _ rfl, key 3 _ rfl⟩
theorem ReadT.on {w w' : World} {v : Value} {L : List Tok} (h : ReadT w v L) (hb : Below w.heap.size w w') : ReadT w' v L := by
  obtain ⟨A, c, hv, hc, hr⟩ := h
  refine ⟨A, c, hv, hc, fun i t hi => ?_⟩
  obtain ⟨g, hA, hg, h0, h1, h2, h3⟩ := hr i t hi
  have e : ∀ j, w'.cell? ⟨g, j, none⟩ = w.cell? ⟨g, j, none⟩ := fun j => hb.cell (p := ⟨g, j, none⟩) hg
  exact ⟨g, hA, Nat.lt_of_lt_of_le hg hb.size, by rw [e]; exact h0, by rw [e]; exact h1, by rw [e]; exact h2, by rw [e]; exact h3⟩

theorem below_drew1 (w : World) (n : Nat) : Below w.heap.size w (w.drewN n) := ⟨rfl, rfl, rfl, Nat.le_refl _, fun _ _ => rfl⟩
theorem drews (w : World) (n m : Nat) : (w.drewN n).drewN m = w.drewN (n + m) := World.drewN_drewN _ _ _
theorem below_drews (w : World) (n m : Nat) : Below w.heap.size w ((w.drewN n).drewN m) := by rw [drews]; exact below_drew1 _ _
end Go.Proofs.YtpeohfgadnfnpaaGreatDoor
