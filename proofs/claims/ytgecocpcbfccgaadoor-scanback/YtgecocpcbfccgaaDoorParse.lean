/-
  DERIVED. Layer 2: the contract of words.Parse, for every text (as in layer 1, over this translation).
-/
import Derived.Test.YtgecocpcbfccgaaDoorRow
import Derived.Test.YtgecocpcbfccgaaDoorShelf
import Derived.Lib.AppendIntMem
namespace Go.Proofs.YtgecocpcbfccgaaDoor
open Go.RowKit
/-- What a call of two results comes back with, and that nothing that was there has turned. -/
def Gives2 (x y : Int) (w : World) (e : Ending) (w' : World) : Prop := e = .returned (.tuple #[.int .i64 x, .int .i64 y]) ∧ Below w.heap.size w w'
theorem gives2_of {x x' y : Int} {w w' : World} {e : Ending} (he : e = .returned (.tuple #[.int .i64 x', .int .i64 y])) (h : x' = x) (hb : Below w.heap.size w w') : Gives2 x y w e w' := by
  subst h; exact ⟨he, hb⟩

/-- Digits alone, the first one no 0. -/
def plainB (l : List UInt8) : Bool := !l.isEmpty && l.all digB && l.head? != some 48

theorem valFrom_append (n : Nat) (l m : List UInt8) : valFrom n (l ++ m) = valFrom (valFrom n l) m := by
  simp [valFrom, List.foldl_append]
theorem valFrom_ge (l : List UInt8) : ∀ n, n ≤ valFrom n l := by
  induction l with
  | nil => intro n; exact Nat.le_refl _
  | cons c l ih =>
    intro n
    have h := ih (n * 10 + (c.toNat - 48))
    show n ≤ valFrom (n * 10 + (c.toNat - 48)) l
    omega
theorem valN_take_le (l : List UInt8) (k : Nat) : valN (l.take k) ≤ valN l := by
  have h : valN l = valFrom (valN (l.take k)) (l.drop k) := by
    rw [show valN l = valN (l.take k ++ l.drop k) from by rw [List.take_append_drop]]
    exact valFrom_append 0 _ _
  rw [h]; exact valFrom_ge _ _
theorem valN_snoc (l : List UInt8) (c : UInt8) : valN (l ++ [c]) = valN l * 10 + (c.toNat - 48) := by
  unfold valN; rw [valFrom_append]; rfl
theorem mem_at (s : ByteArray) (k : Nat) (h : k < s.size) : s[k] ∈ s.data.toList := by
  have : s[k] = s.data.toList[k]'(by simpa using h) := rfl
  rw [this]; exact List.getElem_mem _
theorem head_at (s : ByteArray) (h : 0 < s.size) : s.data.toList.head? = some s[0] := by
  rw [List.head?_eq_getElem?, List.getElem?_eq_getElem (by simpa using h)]; rfl
theorem plainB_bad (s : ByteArray) (k : Nat) (h : k < s.size) (hd : digB s[k] = false) : plainB s.data.toList = false := by
  have : s.data.toList.all digB = false := by
    rw [List.all_eq_false]; exact ⟨_, mem_at s k h, by simp [hd]⟩
  simp [plainB, this]
theorem plainB_zero (s : ByteArray) (h : 0 < s.size) (hd : s[0] = 48) : plainB s.data.toList = false := by
  simp [plainB, head_at s h, hd]
/-- What holds when the first k bytes have been let by. -/
def okTo (s : ByteArray) (k : Nat) : Prop := (s.data.toList.take k).all digB = true ∧ (0 < k → s.data.toList.head? ≠ some 48)
theorem okTo_zero (s : ByteArray) : okTo s 0 := ⟨by simp, fun h => absurd h (by omega)⟩
theorem okTo_succ (s : ByteArray) (k : Nat) (h : k < s.size) (ho : okTo s k) (hd : digB s[k] = true) (hz : k = 0 → s[k] ≠ 48) : okTo s (k + 1) := by
  refine ⟨by rw [take_snoc s k h, List.all_append, ho.1]; simp [hd], fun _ => ?_⟩
  by_cases hk : k = 0
  · subst hk; rw [head_at s h]; intro e; exact hz rfl (by simpa using e)
  · exact ho.2 (by omega)
theorem okTo_end (s : ByteArray) (k : Nat) (h : ¬ k < s.size) (ho : okTo s k) : plainB s.data.toList = !s.data.toList.isEmpty := by
  have h1 := ho.1
  rw [take_all s k h] at h1
  unfold plainB
  rw [h1]
  by_cases hs : 0 < s.size
  · have h2 := ho.2 (by omega)
    simp [h2]
  · have : s.data.toList = [] := by
      have : s.data.toList.length = 0 := by
        have e : s.data.toList.length = s.size := rfl
        omega
      exact List.length_eq_zero_iff.1 this
    simp [this]

/-- The greatest number that can stand behind a minus sign. -/
def maxN : Nat := 9223372036854775808
/-- What a text is as a number, and what is wrong of it: words.Parse. -/
def parseV (l : List UInt8) : Int × Int :=
  if l = [48] then (0, 0)
  else
    let minus := l.head? == some 45
    let d := if minus then l.tail else l
    if plainB d = false then (0, 8)
    else if maxN < valN d ∨ (minus = false ∧ valN d = maxN) then (0, 4)
    else if minus then (-(valN d : Int), 0) else ((valN d : Int), 0)

theorem width_pos (s : ByteArray) (pos : Nat) (h : pos < s.size) : 1 ≤ (Utf8.decode s pos).2 := by
  by_cases ha : (s[pos]'h).toNat < 128
  · rw [decode_ascii s pos h ha]
    exact Nat.le_refl _
  · exact (decode_high s pos h (by omega)).2

theorem below_iter (w : World) (s : ByteArray) (pos : Nat) : Below w.heap.size w (w.iter s pos) := (Below.refl _ _).alloc (Nat.le_refl _) _
theorem digB_no {c : UInt8} (h : c.toNat < 48 ∨ 57 < c.toNat) : digB c = false := by
  unfold digB
  rcases h with h | h
  · simp; omega
  · simp; omega
theorem digB_yes {c : UInt8} (h1 : 48 ≤ c.toNat) (h2 : c.toNat ≤ 57) : digB c = true := by
  unfold digB; simp; omega
theorem u8_of {c : UInt8} {n : UInt8} (h : c.toNat = n.toNat) : c = n := UInt8.toNat_inj.1 h

set_option maxHeartbeats 1000000 in
theorem plain_any (s : ByteArray) (w : World) :
    Calls Tryd.prog 56 #[.string s] w fun e w' => e = .returned (.bool (plainB s.data.toList)) ∧ Below w.heap.size w w' := by
  go_enter Tryd.func56, Tryd.ntmps56
  go_wp2
  go_loopw [3] (fun _ w' => ∃ pos : Nat, w' = w.iter s pos ∧ okTo s pos) (fun _ w' => s.size - w'.iterPos w.heap.size)
  case atStart => exact ⟨0, rfl, okTo_zero s⟩
  case round =>
    obtain ⟨pos, rfl, ho⟩ := hrel
    have HO := Lib.hid ho
    clear ho
    by_cases hp : pos < s.size
    · by_cases ha : (s[pos]'hp).toNat < 128
      · have hnx : ∀ ty, (Instr.next (.pointer (some ⟨w.heap.size, 0, none⟩)) true ty).run Tryd.prog (w.iter s pos) = _ := fun ty => run_next_ascii w s pos ty hp ha
        generalize hc : (s[pos]'hp) = c at *
        have HC := Lib.hid hc
        clear hc
        by_cases h1 : (c.toNat : Int) < 48
        · have HB := Lib.hid (plainB_bad s pos hp (by rw [HC.out]; exact digB_no (.inl (by omega))))
          go_wp2
          go_ret
          exact ⟨ret_bool HB.out.symm, below_iter _ _ _⟩
        · by_cases h2 : 57 < (c.toNat : Int)
          · have HB := Lib.hid (plainB_bad s pos hp (by rw [HC.out]; exact digB_no (.inr (by omega))))
            go_wp2
            go_ret
            exact ⟨ret_bool HB.out.symm, below_iter _ _ _⟩
          · have HD := Lib.hid (digB_yes (c := c) (by omega) (by omega))
            by_cases h3 : pos = 0
            · subst h3
              by_cases h4 : c.toNat = 48
              · have HB := Lib.hid (plainB_zero s hp (by rw [HC.out]; exact u8_of h4))
                have h5 : ((c.toNat : Int) == 48) = true := beq_iff_eq.2 (by omega)
                clear h4
                go_wp2
                go_ret
                exact ⟨ret_bool HB.out.symm, below_iter _ _ _⟩
              · have h5 : ((c.toNat : Int) == 48) = false := beq_eq_false_iff_ne.2 (by omega)
                have HS := Lib.hid (okTo_succ s 0 hp HO.out (by rw [HC.out]; exact HD.out) (fun _ e => h4 (by rw [← HC.out, e]; rfl)))
                clear h4
                go_wp2
                go_roundw
                case rel => exact ⟨1, rfl, HS.out⟩
                case measure => simp; omega
            · have h5 : ((pos : Int) == 0) = false := beq_eq_false_iff_ne.2 (by omega)
              have HS := Lib.hid (okTo_succ s pos hp HO.out (by rw [HC.out]; exact HD.out) (fun e => absurd e h3))
              clear h3
              go_wp2
              go_roundw
              case rel => exact ⟨pos + 1, rfl, HS.out⟩
              case measure => simp; omega
      · have hnx : ∀ ty, (Instr.next (.pointer (some ⟨w.heap.size, 0, none⟩)) true ty).run Tryd.prog (w.iter s pos) = _ := fun ty => run_next_any w s pos ty hp
        have hh := (decode_high s pos hp (by omega)).1
        have HB := Lib.hid (plainB_bad s pos hp (digB_no (.inr (by omega))))
        clear ha
        generalize (Utf8.decode s pos).1 = r at *
        generalize (Utf8.decode s pos).2 = q at *
        have h1 : ¬ (r : Int) < 48 := by omega
        have h2 : 57 < (r : Int) := by omega
        go_wp2
        go_ret
        exact ⟨ret_bool HB.out.symm, below_iter _ _ _⟩
    · have hnx : ∀ ty, (Instr.next (.pointer (some ⟨w.heap.size, 0, none⟩)) true ty).run Tryd.prog (w.iter s pos) = _ := fun ty => run_next_end w s pos ty hp
      have HB := Lib.hid (okTo_end s pos hp HO.out)
      go_wp2
      go_ret
      refine ⟨ret_bool ?_, below_iter _ _ _⟩
      rw [HB.out, ByteArray.toList_eq]

/-- The digit of a byte. -/
theorem valN_take_succ (s : ByteArray) (k : Nat) (h : k < s.size) : valN (s.data.toList.take (k + 1)) = valN (s.data.toList.take k) * 10 + (s[k].toNat - 48) := by
  rw [take_snoc s k h, valN_snoc]
theorem quo_ten (x n : Int) (hx : x ≤ 0) : n < x.tdiv 10 ↔ n * 10 < x := by
  have e : x.tdiv 10 = -((-x) / 10) := by
    rw [show x = -(-x) from by omega, Int.neg_tdiv, Int.tdiv_eq_ediv_of_nonneg (by omega)]
    simp
  rw [e]; omega
theorem all_at (s : ByteArray) (k : Nat) (h : k < s.size) (ha : s.data.toList.all digB = true) : 48 ≤ s[k].toNat ∧ s[k].toNat ≤ 57 := by
  have := List.all_eq_true.1 ha _ (mem_at s k h)
  unfold digB at this
  simpa using this

def belV (l : List UInt8) : Int := if valN l ≤ maxN then -(valN l : Int) else 0
def belB (l : List UInt8) : Bool := decide (valN l ≤ maxN)
def GivesNB (x : Int) (y : Bool) (w : World) (e : Ending) (w' : World) : Prop := e = .returned (.tuple #[.int .i64 x, .bool y]) ∧ Below w.heap.size w w'
theorem givesNB_of {x x' : Int} {y y' : Bool} {w w' : World} {e : Ending} (he : e = .returned (.tuple #[.int .i64 x', .bool y'])) (hx : x' = x) (hy : y' = y) (hb : Below w.heap.size w w') : GivesNB x y w e w' := by
  subst hx; subst hy; exact ⟨he, hb⟩
theorem bel_no {l : List UInt8} (h : maxN < valN l) : (0 = belV l) ∧ (false = belB l) := by
  unfold belV belB; rw [if_neg (by omega)]; simp; omega
theorem bel_yes {l : List UInt8} (h : valN l ≤ maxN) : (-(valN l : Int) = belV l) ∧ (true = belB l) := by
  unfold belV belB; rw [if_pos h]; simp [h]
/-- A round's step: what is one digit further. -/
theorem step_eq (m d : Nat) (h1 : 48 ≤ d) (h2 : d ≤ 57) (hm : m ≤ 9223372036854775808) (hf : ¬ -(m : Int) * 10 < -9223372036854775808 + ((d : Int) - 48)) :
    wrap64 (wrap64 (-(m : Int) * 10) - ((d : Int) - 48)) = -((m * 10 + (d - 48) : Nat) : Int) := by
  rw [IntWalk.wrap64_in (-(m : Int) * 10) (by omega), IntWalk.wrap64_in _ (by omega)]
  omega

set_option maxHeartbeats 1000000 in
theorem below_any (s : ByteArray) (w : World) (hall : s.data.toList.all digB = true) :
    Calls Tryd.prog 57 #[.string s] w (GivesNB (belV s.data.toList) (belB s.data.toList) w) := by
  have HA := Lib.hid hall
  clear hall
  go_enter Tryd.func57, Tryd.ntmps57
  go_wp2
  go_loopw [4] (fun n w' => ∃ pos : Nat, w' = w.iter s pos ∧ n = .int .i64 (-(valN (s.data.toList.take pos) : Int)) ∧ valN (s.data.toList.take pos) ≤ 9223372036854775808) (fun _ w' => s.size - w'.iterPos w.heap.size)
  case atStart => exact ⟨0, rfl, rfl, Nat.zero_le _⟩
  case round =>
    obtain ⟨pos, rfl, rfl, ho⟩ := hrel
    by_cases hp : pos < s.size
    · have hd := all_at s pos hp HA.out
      have hnx : ∀ ty, (Instr.next (.pointer (some ⟨w.heap.size, 0, none⟩)) true ty).run Tryd.prog (w.iter s pos) = _ := fun ty => run_next_ascii w s pos ty hp (by omega)
      have HS := Lib.hid (valN_take_succ s pos hp)
      have HL := Lib.hid (valN_take_le s.data.toList (pos + 1))
      generalize (s[pos]'hp) = c at *
      generalize hm : valN (s.data.toList.take pos) = m at *
      clear hm
      obtain ⟨d, hdd⟩ : ∃ d : Nat, c.toNat = d := ⟨_, rfl⟩
      rw [hdd] at hd hnx
      have HC := Lib.hid hdd
      clear hdd
      by_cases hf : -(m : Int) * 10 < -9223372036854775808 + ((d : Int) - 48)
      · have hq : -(m : Int) < (-9223372036854775808 + ((d : Int) - 48)).tdiv 10 := (quo_ten _ _ (by omega)).2 hf
        have HR := Lib.hid (bel_no (l := s.data.toList) (by have h1 := HS.out; have h2 := HL.out; have h3 := HC.out; unfold maxN; omega))
        clear hf
        go_wp2
        go_ret2
        exact givesNB_of rfl HR.out.1 HR.out.2 (below_iter _ _ _)
      · have hq : ¬ -(m : Int) < (-9223372036854775808 + ((d : Int) - 48)).tdiv 10 := fun h => hf ((quo_ten _ _ (by omega)).1 h)
        have HE := Lib.hid (step_eq m d hd.1 hd.2 ho hf)
        have HN : Hid (valN (List.take (pos + 1) s.data.toList) = m * 10 + (d - 48)) := by
          have h1 := HS.out; have h3 := HC.out; rw [h3] at h1; exact Lib.hid h1
        have HM : Hid (m * 10 + (d - 48) ≤ 9223372036854775808) := Lib.hid (by omega)
        clear hf
        go_wp2
        go_roundw
        case rel => exact ⟨pos + 1, rfl, by rw [HE.out, HN.out], by rw [HN.out]; exact HM.out⟩
        case measure => simp; omega
    · have hnx : ∀ ty, (Instr.next (.pointer (some ⟨w.heap.size, 0, none⟩)) true ty).run Tryd.prog (w.iter s pos) = _ := fun ty => run_next_end w s pos ty hp
      have ht := take_all s pos hp
      rw [ht] at ho ⊢
      have HR := Lib.hid (bel_yes (l := s.data.toList) ho)
      clear ht
      go_wp2
      go_ret2
      exact givesNB_of rfl HR.out.1 HR.out.2 (below_iter _ _ _)

theorem below_then {w w1 w2 : World} (h : Below w.heap.size w w1) (k : Below w1.heap.size w1 w2) : Below w.heap.size w w2 := h.trans (k.mono h.size)
theorem plain_all {l : List UInt8} (h : plainB l = true) : l.all digB = true := by
  unfold plainB at h; simp only [Bool.and_eq_true] at h; exact h.1.2
theorem plain_list (d : List UInt8) (w : World) :
    Calls Tryd.prog 56 #[.string ⟨d.toArray⟩] w fun e w' => e = .returned (.bool (plainB d)) ∧ Below w.heap.size w w' := by
  have h := plain_any ⟨d.toArray⟩ w
  simpa using h
theorem below_list (d : List UInt8) (w : World) (h : plainB d = true) :
    Calls Tryd.prog 57 #[.string ⟨d.toArray⟩] w (GivesNB (belV d) (belB d) w) := by
  have h := below_any ⟨d.toArray⟩ w (by simpa using plain_all h)
  simpa using h

/-- What is left of a text, and whether it has a minus sign. -/
theorem parseV_eq (l : List UInt8) (h : l ≠ [48]) : parseV l =
    if plainB (Lib.trimPrefix l [45]) = false then (0, 8)
    else if maxN < valN (Lib.trimPrefix l [45]) ∨ (Lib.hasPrefix l [45] = false ∧ valN (Lib.trimPrefix l [45]) = maxN) then (0, 4)
    else if Lib.hasPrefix l [45] = true then (-(valN (Lib.trimPrefix l [45]) : Int), 0) else ((valN (Lib.trimPrefix l [45]) : Int), 0) := by
  have e1 : (l.head? == some 45) = Lib.hasPrefix l [45] := by
    cases l with
    | nil => rfl
    | cons c l => simp [Lib.hasPrefix, List.isPrefixOf]; rw [Bool.eq_iff_iff]; simp; exact eq_comm
  have e2 : (if Lib.hasPrefix l [45] = true then l.tail else l) = Lib.trimPrefix l [45] := by
    unfold Lib.trimPrefix; simp
  unfold parseV
  rw [if_neg h]
  simp only [e1, e2]

theorem gives2_pair {x y : Int} {p : Int × Int} {w w' : World} {e : Ending} (he : e = .returned (.tuple #[.int .i64 x, .int .i64 y])) (h : p = (x, y)) (hb : Below w.heap.size w w') : Gives2 p.1 p.2 w e w' := by
  subst h; exact ⟨he, hb⟩

set_option maxHeartbeats 1000000 in
theorem parse_any (s : ByteArray) (w : World) :
    Calls Tryd.prog 48 #[.string s] w (Gives2 (parseV s.data.toList).1 (parseV s.data.toList).2 w) := by
  by_cases hz : s.data.toList = [48]
  · obtain rfl : s = ⟨#[48]⟩ := by cases s with | mk d => cases d with | mk l => simp at hz; subst hz; rfl
    go_enter Tryd.func48, Tryd.ntmps48
    go_wp2
    go_ret2
    exact gives2_of rfl rfl (Below.refl _ _)
  · have hz1 : (s.toList == [48]) = false := by rw [ByteArray.toList_eq]; simpa using hz
    have HP := Lib.hid (parseV_eq _ hz)
    clear hz
    have hlist : (ByteArray.mk #[45]).data.toList = [45] := rfl
    generalize hm : Lib.hasPrefix s.data.toList [45] = m at HP
    generalize hd : Lib.trimPrefix s.data.toList [45] = d at HP
    have Hm := Lib.hid hm
    have Hd := Lib.hid hd
    clear hm hd hlist
    go_enter Tryd.func48, Tryd.ntmps48
    go_wp2_with fail
    refine (Tryd.strings_CutPrefix s ⟨#[45]⟩ _).mono ?_
    rintro e w' ⟨rfl, rfl⟩
    rw [show (ByteArray.mk #[45]).data.toList = [45] from rfl, Hm.out, Hd.out]
    by_cases hp : plainB d = true
    · have HB := Lib.hid hp
      go_wp2_with fail
      refine (plain_list d _).mono ?_
      rintro e w1 ⟨rfl, hb1⟩
      rw [HB.out]
      clear hp
      go_wp2_with fail
      refine (below_list d _ HB.out).mono ?_
      rintro e w2 ⟨rfl, hb2⟩
      have HP2 := HP.out
      rw [if_neg (by rw [HB.out]; simp)] at HP2
      by_cases hv : valN d ≤ maxN
      · have hbel := bel_yes hv
        rw [← hbel.1, ← hbel.2]
        clear hbel
        cases m with
        | true =>
          rw [if_neg (by simp; omega), if_pos rfl] at HP2
          have HR := Lib.hid HP2
          clear HP2 hv
          go_wp2
          go_ret2
          exact gives2_pair rfl HR.out (below_then hb1 hb2)
        | false =>
          by_cases he : valN d = maxN
          · rw [if_pos (.inr ⟨rfl, he⟩)] at HP2
            have HR := Lib.hid HP2
            have hq : (-(valN d : Int) == -9223372036854775808) = true := beq_iff_eq.2 (by unfold maxN at he; omega)
            clear HP2 hv he
            go_wp2
            go_ret2
            exact gives2_pair rfl HR.out (below_then hb1 hb2)
          · rw [if_neg (by simp; omega), if_neg (by simp)] at HP2
            have hq : (-(valN d : Int) == -9223372036854775808) = false := beq_eq_false_iff_ne.2 (by unfold maxN at he; omega)
            have HR := Lib.hid HP2
            have HW : Hid (wrap64 (valN d : Int) = (valN d : Int)) := Lib.hid (IntWalk.wrap64_in _ (by unfold maxN at hv he; omega))
            clear HP2 hv he
            go_wp2
            go_ret2
            exact gives2_pair rfl (by rw [HR.out, HW.out]) (below_then hb1 hb2)
      · have hbel := bel_no (l := d) (by omega)
        rw [← hbel.1, ← hbel.2]
        clear hbel
        rw [if_pos (.inl (by omega))] at HP2
        have HR := Lib.hid HP2
        clear HP2 hv
        go_wp2
        go_ret2
        exact gives2_pair rfl HR.out (below_then hb1 hb2)
    · have HB : Hid (plainB d = false) := Lib.hid (by simpa using hp)
      clear hp
      go_wp2_with fail
      refine (plain_list d _).mono ?_
      rintro e w1 ⟨rfl, hb1⟩
      rw [HB.out]
      have HR : Hid (parseV s.data.toList = (0, 8)) := Lib.hid (by rw [HP.out, if_pos HB.out])
      go_wp2
      go_ret2
      exact ⟨by rw [HR.out]; rfl, hb1⟩

end Go.Proofs.YtgecocpcbfccgaaDoor
