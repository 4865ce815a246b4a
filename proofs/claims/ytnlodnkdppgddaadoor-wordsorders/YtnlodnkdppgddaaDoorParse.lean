/-
  DERIVED. Layer 1: contracts of words.Parse and words.Text, for every text and every number.
-/
import Derived.Test.YtnlodnkdppgddaaDoorDig
namespace Go.Proofs.YtnlodnkdppgddaaDoor
open Go.RowKit

theorem below_then {w w1 w2 : World} (h : Below w.heap.size w w1) (k : Below w1.heap.size w1 w2) : Below w.heap.size w w2 := h.trans (k.mono h.size)
theorem plain_all {l : List UInt8} (h : plainB l = true) : l.all digB = true := by
  unfold plainB at h; simp only [Bool.and_eq_true] at h; exact h.1.2
theorem plain_list (d : List UInt8) (w : World) :
    Calls Tryd.prog 39 #[.string ⟨d.toArray⟩] w fun e w' => e = .returned (.bool (plainB d)) ∧ Below w.heap.size w w' := by
  have h := plain_any ⟨d.toArray⟩ w
  simpa using h
theorem below_list (d : List UInt8) (w : World) (h : plainB d = true) :
    Calls Tryd.prog 40 #[.string ⟨d.toArray⟩] w (GivesNB (belV d) (belB d) w) := by
  have h := below_any ⟨d.toArray⟩ w (by simpa using plain_all h)
  simpa using h

/-- What is left of a text, and whether it has a minus sign. -/
theorem parseV_eq (l : List UInt8) (h : l ≠ [48]) : parseV l =
    if plainB (Lib.trimPrefix l [45]) = false then (0, 8)
    else if maxN < valN (Lib.trimPrefix l [45]) ∨ (Lib.hasPrefix l [45] = false ∧ valN (Lib.trimPrefix l [45]) = maxN) then (0, 4)
    else if Lib.hasPrefix l [45] = true then (-(valN (Lib.trimPrefix l [45]) : Int), 0) else ((valN (Lib.trimPrefix l [45]) : Int), 0) := by
  have e1 : (l.head? == some 45) = Lib.hasPrefix l [45] := by
    cases l with
    | nil => rfl
    | cons c l => simp [Lib.hasPrefix, List.isPrefixOf]; rw [Bool.eq_iff_iff]; simp; exact eq_comm
  have e2 : (if Lib.hasPrefix l [45] = true then l.tail else l) = Lib.trimPrefix l [45] := by
    unfold Lib.trimPrefix; simp
  unfold parseV
  rw [if_neg h]
  simp only [e1, e2]

theorem gives2_pair {x y : Int} {p : Int × Int} {w w' : World} {e : Ending} (he : e = .returned (.tuple #[.int .i64 x, .int .i64 y])) (h : p = (x, y)) (hb : Below w.heap.size w w') : Gives2 p.1 p.2 w e w' := by
  subst h; exact ⟨he, hb⟩

set_option maxHeartbeats 1000000 in
theorem parse_any (s : ByteArray) (w : World) :
    Calls Tryd.prog 19 #[.string s] w (Gives2 (parseV s.data.toList).1 (parseV s.data.toList).2 w) := by
  by_cases hz : s.data.toList = [48]
  · obtain rfl : s = ⟨#[48]⟩ := by cases s with | mk d => cases d with | mk l => simp at hz; subst hz; rfl
    go_enter Tryd.func19, Tryd.ntmps19
    go_wp2
    go_ret2
    exact gives2_of rfl rfl (Below.refl _ _)
  · have hz1 : (s.toList == [48]) = false := by rw [ByteArray.toList_eq]; simpa using hz
    have HP := Lib.hid (parseV_eq _ hz)
    clear hz
    have hlist : (ByteArray.mk #[45]).data.toList = [45] := rfl
    generalize hm : Lib.hasPrefix s.data.toList [45] = m at HP
    generalize hd : Lib.trimPrefix s.data.toList [45] = d at HP
    have Hm := Lib.hid hm
    have Hd := Lib.hid hd
    clear hm hd hlist
    go_enter Tryd.func19, Tryd.ntmps19
    go_wp2_with fail
    refine (Tryd.strings_CutPrefix s ⟨#[45]⟩ _).mono ?_
    rintro e w' ⟨rfl, rfl⟩
    rw [show (ByteArray.mk #[45]).data.toList = [45] from rfl, Hm.out, Hd.out]
    by_cases hp : plainB d = true
    · have HB := Lib.hid hp
      go_wp2_with fail
      refine (plain_list d _).mono ?_
      rintro e w1 ⟨rfl, hb1⟩
      rw [HB.out]
      clear hp
      go_wp2_with fail
      refine (below_list d _ HB.out).mono ?_
      rintro e w2 ⟨rfl, hb2⟩
      have HP2 := HP.out
      rw [if_neg (by rw [HB.out]; simp)] at HP2
      by_cases hv : valN d ≤ maxN
      · have hbel := bel_yes hv
        rw [← hbel.1, ← hbel.2]
        clear hbel
        cases m with
        | true =>
          rw [if_neg (by simp; omega), if_pos rfl] at HP2
          have HR := Lib.hid HP2
          clear HP2 hv
          go_wp2
          go_ret2
          exact gives2_pair rfl HR.out (below_then hb1 hb2)
        | false =>
          by_cases he : valN d = maxN
          · rw [if_pos (.inr ⟨rfl, he⟩)] at HP2
            have HR := Lib.hid HP2
            have hq : (-(valN d : Int) == -9223372036854775808) = true := beq_iff_eq.2 (by unfold maxN at he; omega)
            clear HP2 hv he
            go_wp2
            go_ret2
            exact gives2_pair rfl HR.out (below_then hb1 hb2)
          · rw [if_neg (by simp; omega), if_neg (by simp)] at HP2
            have hq : (-(valN d : Int) == -9223372036854775808) = false := beq_eq_false_iff_ne.2 (by unfold maxN at he; omega)
            have HR := Lib.hid HP2
            have HW : Hid (wrap64 (valN d : Int) = (valN d : Int)) := Lib.hid (IntWalk.wrap64_in _ (by unfold maxN at hv he; omega))
            clear HP2 hv he
            go_wp2
            go_ret2
            exact gives2_pair rfl (by rw [HR.out, HW.out]) (below_then hb1 hb2)
      · have hbel := bel_no (l := d) (by omega)
        rw [← hbel.1, ← hbel.2]
        clear hbel
        rw [if_pos (.inl (by omega))] at HP2
        have HR := Lib.hid HP2
        clear HP2 hv
        go_wp2
        go_ret2
        exact gives2_pair rfl HR.out (below_then hb1 hb2)
    · have HB : Hid (plainB d = false) := Lib.hid (by simpa using hp)
      clear hp
      go_wp2_with fail
      refine (plain_list d _).mono ?_
      rintro e w1 ⟨rfl, hb1⟩
      rw [HB.out]
      have HR : Hid (parseV s.data.toList = (0, 8)) := Lib.hid (by rw [HP.out, if_pos HB.out])
      go_wp2
      go_ret2
      exact ⟨by rw [HR.out]; rfl, hb1⟩

/-- The table that strconv.Itoa reads. -/
def Tab (w : World) : Prop := Lib.TabIs Tryd.prog w (Tryd.prog.globals[0]?.map (·.name)).get! .u64 Lib.pow10Tab
theorem Tab.on {w w' : World} (h : Tab w) (hb : Below w.heap.size w w') : Tab w' := Lib.tabBelow_of_tabIs h w' hb

set_option maxHeartbeats 1000000 in
theorem text_any (n : Int) (h0 : -9223372036854775808 ≤ n) (h1 : n ≤ 9223372036854775807) (w : World) (ht : Tab w) :
    Calls Tryd.prog 21 #[.int .i64 n] w fun e w' => e = .returned (.string ⟨(Lib.itoa n).toArray⟩) ∧ Below w.heap.size w w' := by
  go_enter Tryd.func21, Tryd.ntmps21
  go_wp2_with fail
  refine (Tryd.strconv_Itoa n h0 h1 _ ht).mono ?_
  rintro e w' ⟨rfl, k, os, rfl⟩
  go_wp2
  go_ret
  exact ⟨rfl, Lib.below_grow _ _ (Nat.le_refl _) _ _⟩
end Go.Proofs.YtnlodnkdppgddaaDoor
