/-
  DERIVED. Layer 2: the walk of the law ScanBlanks: for every text and every number it is true.
-/
import Derived.Test.YtgecocpcbfccgaaDoorBack
import Derived.Laws.BitsAllLaws
import Derived.Laws.BitsLemmas
namespace Go.Proofs.YtgecocpcbfccgaaDoor
open Go.RowKit

theorem and_seven (n : Int) : 0 ≤ bits .and .i64 n 7 ∧ bits .and .i64 n 7 ≤ 7 := by
  have e : bits .and .i64 n 7 = IntKind.i64.wrap ((BitVec.ofInt 64 n &&& BitVec.ofInt 64 7).toNat : Int) := rfl
  have h : (BitVec.ofInt 64 n &&& BitVec.ofInt 64 7).toNat ≤ 7 := by
    rw [BitVec.toNat_and]
    exact Nat.le_trans Nat.and_le_right (by decide)
  rw [e, IntKind.wrap_i64]
  omega
theorem and_three : ∀ k, k < 8 → bits .and .i64 (k : Nat) 3 = ((k % 4 : Nat) : Int) := by decide +kernel
def padB (j : Nat) : UInt8 := if j = 0 then 32 else if j = 1 then 10 else if j = 2 then 9 else 13
def padL (k : Nat) : List UInt8 := (List.range k).map fun i => padB (i % 4)
theorem padL_succ (k : Nat) : padL (k + 1) = padL k ++ [padB (k % 4)] := by simp [padL, List.range_succ]
theorem padL_len (k : Nat) : (padL k).length = k := by simp [padL]
theorem padL_blk (k : Nat) : (padL k).all blkB = true := by
  rw [List.all_eq_true]
  intro x hx
  simp only [padL, List.mem_map] at hx
  obtain ⟨i, _, rfl⟩ := hx
  unfold padB
  split
  · decide
  · split
    · decide
    · split <;> decide
theorem pad_cut : ∀ j, j < 4 → ByteArray.extract ⟨#[32, 10, 9, 13]⟩ j (j + 1) = ⟨[padB j].toArray⟩ := by
  intro j hj
  have : j = 0 ∨ j = 1 ∨ j = 2 ∨ j = 3 := by omega
  rcases this with rfl | rfl | rfl | rfl <;> rfl
def remL : List UInt8 := [47, 47, 32, 97, 32, 114, 101, 109, 97, 114, 107, 32, 35, 32]
theorem str_app (a b : List UInt8) : (ByteArray.mk a.toArray ++ ByteArray.mk b.toArray) = ByteArray.mk (a ++ b).toArray := by
  apply ByteArray.ext; simp

theorem same_move (d : Nat) : ∀ L : List Tok, sameB false L (L.map (Tok.move d)) = true
  | [] => rfl
  | t :: L => by rw [List.map_cons]; unfold sameB; rw [same_move d L]; simp [tokEq, Tok.move]

set_option maxRecDepth 100000 in
set_option maxHeartbeats 8000000 in
theorem blanks_any (s : ByteArray) (n : Int) (w : World) (hw : Signs w) : Calls Tryd.prog 7 #[.string s, .int .i64 n] w (IsTrue w) := by
  have HU := Lib.hid (cut_size s 1500)
  have HW := Lib.hid hw
  obtain ⟨m0, m7⟩ := and_seven n
  clear hw
  obtain ⟨m, hm⟩ : ∃ m : Nat, bits .and .i64 n 7 = (m : Int) := ⟨(bits .and .i64 n 7).toNat, by omega⟩
  have hm7 : m ≤ 7 := by omega
  clear m0 m7
  go_enter Tryd.func7, Tryd.ntmps7
  go_wp2_with fail
  go_loop [5, 6] (fun v i => ∃ k : Nat, k ≤ 1 + m ∧ i = .int .i64 k ∧ v = .string ⟨(padL k).toArray⟩) (fun _ i => 1 + m - (intOf i).toNat)
  case atStart => exact ⟨0, Nat.zero_le _, rfl, rfl⟩
  case round =>
    obtain ⟨k, hk, rfl, rfl⟩ := hrel
    by_cases hlt : k < 1 + m
    · have hand := and_three k (by omega)
      have hpl := padL_len k
      have HP := Lib.hid (padL_succ k)
      have hj : k % 4 < 4 := by omega
      generalize hjj : k % 4 = j at *
      have HJ := Lib.hid (pad_cut j hj)
      clear hjj
      generalize padL k = p at *
      have hp8 : p.length ≤ 8 := by omega
      clear hpl
      go_wp2_with fail
      go_round
      case rel => exact ⟨k + 1, by omega, by go_num, by rw [HP.out, ← str_app, ← HJ.out]⟩
      case measure => simp [intOf]; omega
    · obtain rfl : k = 1 + m := by omega
      have hpl := padL_len (1 + m)
      have HQ := Lib.hid (padL_blk (1 + m))
      generalize padL (1 + m) = p at *
      have hp8 : p.length ≤ 8 := by omega
      clear hpl hk hlt
      go_wp2_with fail
      change Calls _ _ #[.string (s.extract 0 (min (s.size : Int) (1500 : Nat)).toNat)] _ _
      generalize s.extract 0 (min (s.size : Int) (1500 : Nat)).toNat = u at *
      generalize min (s.size : Int) 1500 = mm
      have hu := HU.out
      refine (scan_any u _ (by omega) HW.out).mono ?_
      have HM := Lib.hid (scan_padded p remL u.data.toList HQ.out (by decide) (by decide))
      have hsl := scan_len u.data.toList 0
      have hpl := scan_errpl u.data.toList 0
      have hfm := scanL_form u.data.toList 0
      rw [len_data] at hsl hpl
      generalize scanL u.data.toList 0 = f at *
      rintro e w1 ⟨v1, rfl, ho, hb⟩
      have HO := Lib.hid ho.read
      have HB := Lib.hid hb
      clear ho hb
      have HX : Hid ((ByteArray.mk p.toArray ++ ByteArray.mk #[47, 47, 32, 97, 32, 114, 101, 109, 97, 114, 107, 32, 35, 32, 10] ++ u ++ ByteArray.mk #[10] ++ ByteArray.mk p.toArray).data.toList = p ++ (remL ++ 10 :: (u.data.toList ++ 10 :: p))) := Lib.hid (by
        simp [remL])
      have HXs : Hid ((ByteArray.mk p.toArray ++ ByteArray.mk #[47, 47, 32, 97, 32, 114, 101, 109, 97, 114, 107, 32, 35, 32, 10] ++ u ++ ByteArray.mk #[10] ++ ByteArray.mk p.toArray).size ≤ 4000) := Lib.hid (by
        rw [← len_data, HX.out]; simp [remL]; omega)
      go_wp2_with fail
      refine (scan_any _ _ HXs.out (HW.out.on HB.out)).mono ?_
      rw [HX.out, HM.out]
      clear HX HXs HM
      by_cases he : f.err = 0
      · have he2 : (f.err != 0) = false := by simpa using he
        rw [show f.move (p.length + remL.length + 1) = ⟨f.toks.map (Tok.move (p.length + remL.length + 1)), f.err, 0⟩ from by unfold Found.move; rw [if_pos he, he]]
        have HS := Lib.hid (same_move (p.length + remL.length + 1) f.toks)
        generalize hg : f.toks = L at *
        have hL : L.length ≤ 1500 := by omega
        clear hg hsl hpl hfm he
        generalize L.map (Tok.move (p.length + remL.length + 1)) = M at *
        rintro e w2 ⟨v2, rfl, ho, hb⟩
        replace HO := Lib.hid (HO.out.on hb)
        replace HB := Lib.hid (below_then HB.out hb)
        have HV := Lib.hid ho.read
        clear ho hb
        go_wp2_with fail
        refine (same_any false _ _ L M _ HO.out HV.out (by omega)).mono ?_
        rw [HS.out]
        rintro e w3 ⟨rfl, hb⟩
        replace HB := Lib.hid (below_then HB.out hb)
        clear hb
        go_wp2_with fail
        refine (fixed_any _ (HW.out.on HB.out)).mono ?_
        rintro e w4 ⟨rfl, hb⟩
        replace HB := Lib.hid (below_then HB.out hb)
        clear hb
        go_wp2_with fail
        go_ret
        exact ⟨rfl, HB.out⟩
      · have he2 : (f.err != 0) = true := by simpa using he
        rw [show f.move (p.length + remL.length + 1) = ⟨[], f.err, f.pl + (p.length + remL.length + 1)⟩ from by unfold Found.move; rw [if_neg he]]
        have hp := (hpl he).2
        clear hpl hfm hsl he
        have hq : (((f.pl + (p.length + remL.length + 1) : Nat) : Int) == (f.pl : Int) + (p.length : Int) + 15) = true := by
          rw [beq_iff_eq, show remL.length = 14 from rfl]; omega
        generalize f.pl + (p.length + remL.length + 1) = q at *
        rintro e w2 ⟨v2, rfl, ho, hb⟩
        replace HB := Lib.hid (below_then HB.out hb)
        clear ho hb
        go_wp2_with fail
        refine (fixed_any _ (HW.out.on HB.out)).mono ?_
        rintro e w4 ⟨rfl, hb⟩
        replace HB := Lib.hid (below_then HB.out hb)
        clear hb
        go_wp2_with fail
        go_ret
        exact ⟨rfl, HB.out⟩
end Go.Proofs.YtgecocpcbfccgaaDoor
