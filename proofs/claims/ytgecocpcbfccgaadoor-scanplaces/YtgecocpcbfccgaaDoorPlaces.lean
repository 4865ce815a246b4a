/-
  DERIVED. Layer 2: the walk of the law ScanPlaces: for every text it is true.
-/
import Derived.Test.YtgecocpcbfccgaaDoorBack
namespace Go.Proofs.YtgecocpcbfccgaaDoor
open Go.RowKit

theorem extract_mid (s : ByteArray) (a n : Nat) : (s.extract a (a + n)).data.toList = (s.data.toList.drop a).take n := by
  rw [ByteArray.data_extract, Array.toList_extract, List.extract_eq_take_drop, Nat.add_sub_cancel_left]

set_option maxRecDepth 100000 in
set_option maxHeartbeats 8000000 in
theorem places_any (s : ByteArray) (w : World) (hw : Signs w) : Calls Tryd.prog 6 #[.string s] w (IsTrue w) := by
  have HU := Lib.hid (cut_size s 1500)
  have HW := Lib.hid hw
  clear hw
  go_enter Tryd.func6, Tryd.ntmps6
  go_wp2_with fail
  change Calls _ _ #[.string (s.extract 0 (min (s.size : Int) (1500 : Nat)).toNat)] _ _
  generalize s.extract 0 (min (s.size : Int) (1500 : Nat)).toNat = u at *
  generalize min (s.size : Int) 1500 = mm
  refine (scan_any u _ (by have := HU.out; omega) HW.out).mono ?_
  have hlen := scan_len u.data.toList 0
  have hpl := places_pure u.data.toList u.data.toList 0 (Nat.zero_le _) rfl
  rw [len_data] at hlen
  generalize scanL u.data.toList 0 = f at *
  have hu := HU.out
  rintro e w1 ⟨v1, rfl, ho, hb⟩
  have HP := Lib.hid hpl
  have HB := Lib.hid hb
  have HR := Lib.hid ho.read
  obtain ⟨A, c, hv, hc, _⟩ := ho.read
  subst hv
  clear hpl hb ho
  by_cases he : f.err = 0
  · have he2 : (f.err != 0) = false := by simpa using he
    clear he
    generalize hg : f.toks = L at *
    have hL : L.length ≤ 1500 := by omega
    clear hg hlen
    go_wp2_with fail
    go_loopw [6, 7] (fun x i wr => ∃ k e : Nat, k ≤ L.length ∧ i = .int .i64 k ∧ x = .int .i64 e ∧ Below w1.heap.size w1 wr ∧ e ≤ 1500 ∧ PlacesOK u.data.toList e (L.drop k)) (fun _ i _ => L.length - (intOf i).toNat)
    case atStart => exact ⟨0, 0, Nat.zero_le _, rfl, rfl, Below.refl _ _, Nat.zero_le _, by rw [List.drop_zero]; exact HP.out⟩
    case round =>
      obtain ⟨k, e, hk, rfl, rfl, hbel, hel, hpo⟩ := hrel
      have HB1 := Lib.hid hbel
      by_cases hlt : k < L.length
      · have ha : L[k]? = some L[k] := List.getElem?_eq_getElem hlt
        rw [List.drop_eq_getElem_cons hlt] at hpo
        generalize L[k] = t at *
        obtain ⟨p1, p2, p3, p4, p5, p6, p7, p8, p9⟩ := hpo
        rw [len_data] at p3
        have HP9 := Lib.hid p9
        have q4 : ((u.extract t.pl (t.pl + t.text.length)).toList == t.text) = true := by rw [ByteArray.toList_eq, extract_mid, p4]; simp
        obtain ⟨A', c', hv, _, hr⟩ := (HR.out.on HB1.out)
        obtain ⟨g, hA, hg, x0, x1, x2, x3⟩ := hr k t ha
        subst hA
        have hA2 : A = some ⟨g, 0, none⟩ := by injection hv
        subst hA2
        clear hr ha hbel p9 p4 hv
        have z1 : decide (t.pl < e) = false := by simpa using p1
        have z2 : ((t.text.length : Int) == 0) = false := beq_eq_false_iff_ne.2 (by omega)
        have z3 : IntKind.i64.wrap ((t.pl : Int) + (t.text.length : Int)) = (t.pl : Int) + (t.text.length : Int) := IntWalk.i64_in _ (by omega)
        have z4 : decide ((u.size : Int) < (t.pl : Int) + (t.text.length : Int)) = false := by simp; omega
        have z5 : ((t.pl : Int) + (t.text.length : Int)).toNat = t.pl + t.text.length := by omega
        have k1 : 1 ≤ t.kind ∧ t.kind ≤ 3 := by rcases p5 with h | h | h <;> omega
        obtain ⟨k1, k2⟩ := k1
        have HB2 : Hid (∀ nq, Below w1.heap.size w1 ((wr.alloc (.cells #[.int .i64 t.kind, .string ⟨t.text.toArray⟩, .int .i64 t.n, .int .i64 t.pl] 31)).drewN nq)) :=
          Lib.hid (fun nq => (HB1.out.alloc HB1.out.size _).trans (below_drew1 _ nq |>.mono (by have := HB1.out.size; simp; omega)))
        rcases (show (t.n != 0) = false ∨ ((t.n != 0) = true ∧ (t.kind != 2) = false) from by
          by_cases h : t.n = 0
          · left; simp [h]
          · right; simp [h, p6 h]) with n1 | ⟨n1, n2⟩
        · clear p5 p6
          go_wp2_with fail
          go_quiet (fail)
          clear z1 z2 z3 z4 z5 q4
          go_wp2_with fail
          go_roundw
          case rel => exact ⟨k + 1, t.pl + t.text.length, by omega, by go_num, by go_num, HB2.out _, by omega, HP9.out⟩
          case measure => simp [intOf]; omega
        · clear p5 p6
          go_wp2_with fail
          go_quiet (fail)
          clear z1 z2 z3 z4 z5 q4
          go_wp2_with fail
          go_roundw
          case rel => exact ⟨k + 1, t.pl + t.text.length, by omega, by go_num, by go_num, HB2.out _, by omega, HP9.out⟩
          case measure => simp [intOf]; omega
      · obtain rfl : k = L.length := by omega
        clear hbel hpo
        go_wp2_with fail
        refine (fixed_any _ (HW.out.on (below_then HB.out HB1.out))).mono ?_
        rintro e w2 ⟨rfl, hb⟩
        go_wp2_with fail
        go_ret
        exact ⟨rfl, below_then (below_then HB.out HB1.out) hb⟩
  · have he2 : (f.err != 0) = true := by simpa using he
    clear he hlen
    go_wp2_with fail
    refine (fixed_any _ (HW.out.on HB.out)).mono ?_
    rintro e w2 ⟨rfl, hb⟩
    go_wp2_with fail
    go_ret
    exact ⟨rfl, below_then HB.out hb⟩
end Go.Proofs.YtgecocpcbfccgaaDoor
