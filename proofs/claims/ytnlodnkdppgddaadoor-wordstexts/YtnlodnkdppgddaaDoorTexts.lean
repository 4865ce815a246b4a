/-
  DERIVED. Layer 1: the walk of the law WordsTexts: for every number and every text it is true.
-/
import Derived.Test.YtnlodnkdppgddaaDoorRefParseA
import Derived.Test.YtnlodnkdppgddaaDoorRefParseB
import Derived.Test.YtnlodnkdppgddaaDoorRefText
namespace Go.Proofs.YtnlodnkdppgddaaDoor
open Go.RowKit

set_option maxRecDepth 100000 in
set_option maxHeartbeats 2000000 in
theorem rp_empty (w : World) : Calls Tryd.prog 20 #[.string ⟨#[]⟩] w (Gives2 0 8 w) := by
  go_enter Tryd.func20, Tryd.ntmps20
  go_wp2_with fail
  refine wp_loop_rounds 1 ?_
  rw [rounds_succ]
  go_wp2
  go_ret2
  exact gives2_of rfl rfl (Below.refl _ _)

theorem rparse_any (s : ByteArray) (w : World) (hs : s.size ≤ 100) : Calls Tryd.prog 20 #[.string s] w (Gives2 (parseV s.data.toList).1 (parseV s.data.toList).2 w) := by
  by_cases h0 : 0 < s.size
  · have hh := head_at s h0
    by_cases h1 : s[0].toNat = 45
    · have e : s[0] = 45 := u8_of h1
      exact rp_minus s w hs (Lib.hid (.inr ⟨rfl, by rw [hh, e]⟩)) h0 (beq_iff_eq.2 (by omega))
    · exact rp_plus s w hs (Lib.hid (.inl ⟨rfl, by rw [hh]; intro x; exact h1 (by rw [Option.some.inj x]; rfl)⟩)) h0 (beq_eq_false_iff_ne.2 (by omega))
  · obtain rfl : s = ⟨#[]⟩ := by
      cases s with
      | mk d => cases d with | mk l => cases l with
        | nil => rfl
        | cons c l => exact absurd (Nat.succ_pos _) h0
    exact rp_empty w

set_option maxRecDepth 100000 in
set_option maxHeartbeats 2000000 in
theorem texts_any (n : Int) (s : ByteArray) (w : World) (hn : -9223372036854775808 ≤ n ∧ n ≤ 9223372036854775807) (ht : Tab w) :
    Calls Tryd.prog 4 #[.int .i64 n, .string s] w (IsTrue w) := by
  obtain ⟨h1, h2⟩ := hn
  have HU : Hid ((s.extract 0 (min (s.size : Int) 100).toNat).size ≤ 100) := Lib.hid (by rw [ByteArray.size_extract]; omega)
  go_enter Tryd.func4, Tryd.ntmps4
  go_wp2_with fail
  generalize s.extract 0 (min (s.size : Int) 100).toNat = u at *
  generalize min (s.size : Int) 100 = mm
  refine (parse_any u _).mono ?_
  generalize hx : (parseV u.data.toList).1 = x
  generalize hy : (parseV u.data.toList).2 = y
  have HX := Lib.hid hx
  have HY := Lib.hid hy
  clear hx hy
  rintro e w1 ⟨rfl, hb⟩
  go_wp2_with fail
  refine (rparse_any u _ HU.out).mono ?_
  rw [HX.out, HY.out]
  rintro e w2 ⟨rfl, hc⟩; replace hb := below_then hb hc; clear hc w1
  go_wp2_with fail
  refine (text_any n h1 h2 _ (by exact ht.on hb)).mono ?_; rintro e w1 ⟨rfl, hc⟩; replace hb := below_then hb hc; clear hc w2
  go_wp2_with fail
  refine (rtext_any _ n rfl h1 h2 _).mono ?_; rintro e w2 ⟨rfl, hc⟩; replace hb := below_then hb hc; clear hc w1
  generalize Lib.itoa n = l
  go_wp2_with fail
  refine (fixed_any _ (by exact ht.on hb)).mono ?_; rintro e w3 ⟨rfl, hc⟩; replace hb := below_then hb hc; clear hc
  go_wp2
  go_ret
  exact ⟨rfl, hb⟩
end Go.Proofs.YtnlodnkdppgddaaDoor
