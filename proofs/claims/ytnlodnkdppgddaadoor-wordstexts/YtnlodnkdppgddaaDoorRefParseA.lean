/-
  DERIVED. Layer 1: the contract of the reader that the law WordsTexts holds words.Parse against: texts that have no minus sign ahead.
-/
import Derived.Test.YtnlodnkdppgddaaDoorTruths
import Derived.Test.YtnlodnkdppgddaaDoorRefNum
namespace Go.Proofs.YtnlodnkdppgddaaDoor
open Go.RowKit

set_option maxRecDepth 100000 in
set_option maxHeartbeats 4000000 in
theorem rp_plus (s : ByteArray) (w : World) (hs : s.size ≤ 100) (hS : Hid (Sgn s.data.toList 0)) (h0 : 0 < s.size) (hc0 : (((s[0]'h0).toNat : Int) == 45) = false) :
    Calls Tryd.prog 20 #[.string s] w (Gives2 (parseV s.data.toList).1 (parseV s.data.toList).2 w) := by
  go_enter Tryd.func20, Tryd.ntmps20
  go_wp2_with fail
  go_loop [5, 6, 7] (fun n o i => ∃ (k : Nat) (N : Int) (ov : Bool), 0 ≤ k ∧ k ≤ s.size ∧ i = .int .i64 k ∧ n = .int .i64 N ∧ o = .bool ov ∧ okR s 0 k ∧ invP (valN (segR s 0 k)) N ov) (fun _ _ i => s.size - (intOf i).toNat)
  case atStart => exact ⟨0, 0, false, Nat.le_refl _, by omega, rfl, rfl, rfl, okR_start s 0, by rw [seg_start]; exact .inl ⟨rfl, by decide, by decide⟩⟩
  case round =>
    obtain ⟨k, N, ov, hfk, hk, rfl, rfl, rfl, ho, hi⟩ := hrel
    have HO := Lib.hid ho
    have HI := Lib.hid hi
    clear ho hi
    by_cases hlt : k < s.size
    · obtain ⟨c, hcc⟩ : ∃ c : UInt8, (s[k]'hlt) = c := ⟨_, rfl⟩
      have HC := Lib.hid hcc
      clear hcc
      by_cases hb : c.toNat < 48
      · have hb1 : ((s[k]'hlt).toNat : Int) < 48 := by rw [HC.out]; omega
        have HR := Lib.hid (parse_bad s 0 k hS.out hfk hlt (by rw [HC.out]; exact digB_no (.inl hb)))
        clear hb
        go_wp2
        go_ret2
        exact gives2_pair rfl HR.out (Below.refl _ _)
      · by_cases hb2 : 57 < c.toNat
        · have hb1 : ¬ ((s[k]'hlt).toNat : Int) < 48 := by rw [HC.out]; omega
          have hb3 : 57 < ((s[k]'hlt).toNat : Int) := by rw [HC.out]; omega
          have HR := Lib.hid (parse_bad s 0 k hS.out hfk hlt (by rw [HC.out]; exact digB_no (.inr hb2)))
          clear hb hb2
          go_wp2
          go_ret2
          exact gives2_pair rfl HR.out (Below.refl _ _)
        · have hb1 : ¬ ((s[k]'hlt).toNat : Int) < 48 := by rw [HC.out]; omega
          have hb3 : ¬ 57 < ((s[k]'hlt).toNat : Int) := by rw [HC.out]; omega
          by_cases hz : k = 0 ∧ c = 48 ∧ 1 < s.size
          · obtain ⟨rfl, hz1, hz2⟩ := hz
            have hz3 : (((s[0]'hlt).toNat : Int) == 48) = true := by rw [HC.out, hz1]; rfl
            have HR := Lib.hid (parse_zero s 0 hS.out hlt (by rw [HC.out]; exact hz1) hz2)
            clear hz1 hb hb2
            go_wp2
            go_ret2
            exact gives2_pair rfl HR.out (Below.refl _ _)
          · have HOK := Lib.hid (okR_succ s 0 k hfk hlt HO.out (by rw [HC.out]; exact digB_yes (by omega) (by omega)) (fun e x => hz ⟨e, by rw [← HC.out]; exact x.1, x.2⟩))
            have HV := Lib.hid (seg_val s 0 k hfk hlt)
            have hG : (((k : Int) == 0) = false) ∨ (((k : Int) == 0) = true ∧ (((s[k]'hlt).toNat : Int) == 48) = false) ∨ (((k : Int) == 0) = true ∧ (((s[k]'hlt).toNat : Int) == 48) = true ∧ s.size ≤ 1) := by
              by_cases e : k = 0
              · by_cases e2 : c = 48
                · exact .inr (.inr ⟨beq_iff_eq.2 (by omega), by rw [HC.out, e2]; rfl, Nat.le_of_not_lt (fun x => hz ⟨e, e2, x⟩)⟩)
                · exact .inr (.inl ⟨beq_iff_eq.2 (by omega), beq_eq_false_iff_ne.2 (fun x => e2 (by rw [HC.out] at x; apply u8_of; show c.toNat = 48; omega))⟩)
              · exact .inl (beq_eq_false_iff_ne.2 (by omega))
            clear hz
            have hcb : 48 ≤ ((s[k]'hlt).toNat : Int) := by omega
            have hcb2 : ((s[k]'hlt).toNat : Int) ≤ 57 := by omega
            clear hb hb1 hb2 hb3 HC c
            have HL := Lib.hid (show (s[k]'hlt).toNat - 48 ≤ 9 by omega)
            generalize valN (segR s 0 k) = v at *
            cases ov
            · have hi : N = (v : Int) ∧ v ≤ 9223372036854775807 := by rcases HI.out with h | h; exact h.2; exact absurd h.1 (by simp)
              obtain ⟨rfl, hvm⟩ := hi
              by_cases hq : (9223372036854775807 - (((s[k]'hlt).toNat : Int) - 48)) / 10 < (v : Int)
              · rcases hG with g1 | ⟨g1, g2⟩ | ⟨g1, g2, g3⟩
                all_goals
                  go_wp2
                  go_round
                  case rel =>
                    refine ⟨k + 1, _, _, by omega, by omega, by go_num, rfl, rfl, HOK.out, ?_⟩
                    rw [HV.out]
                    exact .inr ⟨rfl, by omega⟩
                  case measure => simp [intOf]; omega
              · rcases hG with g1 | ⟨g1, g2⟩ | ⟨g1, g2, g3⟩
                all_goals
                  go_wp2
                  go_round
                  case rel =>
                    refine ⟨k + 1, _, _, by omega, by omega, by go_num, rfl, rfl, HOK.out, ?_⟩
                    rw [HV.out]
                    exact .inl ⟨rfl, by omega, by omega⟩
                  case measure => simp [intOf]; omega
            · rcases hG with g1 | ⟨g1, g2⟩ | ⟨g1, g2, g3⟩
              all_goals
                go_wp2
                go_round
                case rel =>
                  refine ⟨k + 1, _, _, by omega, by omega, by go_num, rfl, rfl, HOK.out, ?_⟩
                  rw [HV.out]
                  exact .inr ⟨rfl, by rcases HI.out with h | h; exact absurd h.1 (by simp); have := h.2; omega⟩
                case measure => simp [intOf]; omega
    · have hne : ((0 : Int) == (s.size : Int)) = false := beq_eq_false_iff_ne.2 (by omega)
      have HE := Lib.hid (end_plus s k N ov hlt h0 HO.out hS.out HI.out)
      cases ov
      all_goals
        go_wp2
        go_ret2
        exact gives2_pair rfl (by rw [HE.out]; rfl) (Below.refl _ _)
end Go.Proofs.YtnlodnkdppgddaaDoor
