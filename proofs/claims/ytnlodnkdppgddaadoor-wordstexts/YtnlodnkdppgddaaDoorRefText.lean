/-
  DERIVED. Layer 1: the contract of the function that the law WordsTexts holds words.Text against: for every number.
-/
import Derived.Test.YtnlodnkdppgddaaDoorTruths
import Derived.Test.YtnlodnkdppgddaaDoorNumBack
import Derived.Laws.IdiomStrings
import Derived.Lib.ItoaLen
namespace Go.Proofs.YtnlodnkdppgddaaDoor
open Go.RowKit
theorem conv_dig (n : Int) (h0 : 0 ≤ n) (h1 : n < 10) (w : World) : (convert 43 9 (.slice (some ⟨w.heap.size, 0, none⟩) 1 1)).run Tryd.prog (w.alloc (.cells #[.int .u8 (48 + n)] 5)) = .ok (.string ⟨(Lib.decDigits n.toNat).toArray⟩) (w.alloc (.cells #[.int .u8 (48 + n)] 5)) := by
  obtain ⟨k, rfl⟩ : ∃ k : Nat, n = (k : Int) := ⟨n.toNat, by omega⟩
  have hk : k < 10 := by omega
  have h := run_convert_bytes_back (P := Tryd.prog) (w.alloc (.cells #[.int .u8 (48 + (k : Int))] 5)) 43 9 5 ⟨w.heap.size, 0, none⟩ 1 [UInt8.ofNat (48 + k)] Tryd.underlying43 Tryd.underlying5 Tryd.underlying9 (fun j hj => by
    obtain rfl : j = 0 := by simp at hj; omega
    show (w.alloc (.cells #[.int .u8 (48 + (k : Int))] 5 _)).cell? ⟨w.heap.size, 0, none⟩ = _
    rw [World.cell?_alloc_mark]
    show some (Value.int .u8 (48 + (k : Int))) = some (.int .u8 ((UInt8.ofNat (48 + k)).toNat : Int))
    rw [(dig_of hk).2]; simp)
  rw [Int.toNat_natCast, dec_small hk]
  exact h

set_option maxHeartbeats 2000000 in
theorem rtext_dig (n : Int) (w : World) (h0 : 0 ≤ n) (h1 : n < 10) :
    Calls Tryd.prog 22 #[.int .i64 n] w fun e w' => e = .returned (.string ⟨(Lib.decDigits n.toNat).toArray⟩) ∧ Below w.heap.size w w' := by
  have hc := conv_dig n h0 h1
  generalize Lib.decDigits n.toNat = l at *
  go_enter Tryd.func22, Tryd.ntmps22
  go_wp2_with fail
  go_ret
  exact ⟨rfl, (Below.refl _ _).alloc (Nat.le_refl _) _⟩

theorem str_app (a b : List UInt8) : (ByteArray.mk a.toArray ++ ByteArray.mk b.toArray) = ByteArray.mk (a ++ b).toArray := by
  apply ByteArray.ext; simp

theorem dec_len (n : Int) (h0 : 0 ≤ n) (h1 : n < 10) : (Lib.decDigits n.toNat).length ≤ 21 := by
  rw [dec_small (by omega)]; simp
theorem itoa_pos (n : Int) (h : 10 ≤ n) : Lib.itoa (n / 10) ++ Lib.decDigits (n % 10).toNat = Lib.itoa n := by
  obtain ⟨u, rfl⟩ : ∃ u : Nat, n = (u : Int) := ⟨n.toNat, by omega⟩
  rw [show (u : Int) / 10 = ((u / 10 : Nat) : Int) from by omega, show (u : Int) % 10 = ((u % 10 : Nat) : Int) from by omega, Int.toNat_natCast, Lib.itoa_nonneg, Lib.itoa_nonneg, dec_step (by omega : ¬ u < 10), dec_small (by omega : u % 10 < 10)]
theorem itoa_low (n : Int) (h : n < 0) (h2 : -10 < n) : (45 :: Lib.decDigits (-n).toNat) = Lib.itoa n := by
  obtain ⟨u, rfl⟩ : ∃ u : Nat, n = -(u : Int) := ⟨n.natAbs, by omega⟩
  rw [Lib.itoa_neg u (by omega), show (- -(u : Int)).toNat = u from by omega]
theorem itoa_negs (n q d : Int) (h : n ≤ -10) (hq : n = q * 10 - d) (h0 : 0 ≤ d) (h1 : d < 10) : Lib.itoa q ++ Lib.decDigits d.toNat = Lib.itoa n := by
  obtain ⟨u, rfl⟩ : ∃ u : Nat, n = -(u : Int) := ⟨n.natAbs, by omega⟩
  obtain ⟨v, rfl⟩ : ∃ v : Nat, q = -(v : Int) := ⟨q.natAbs, by omega⟩
  obtain ⟨k, rfl⟩ : ∃ k : Nat, d = (k : Int) := ⟨d.toNat, by omega⟩
  rw [Lib.itoa_neg u (by omega), Lib.itoa_neg v (by omega), Int.toNat_natCast, dec_step (by omega : ¬ u < 10), dec_small (by omega : k < 10), show u / 10 = v from by omega, show u % 10 = k from by omega]
  rfl

def RText (n : Int) (w : World) (e : Ending) (w' : World) : Prop := e = .returned (.string ⟨(Lib.itoa n).toArray⟩) ∧ Below w.heap.size w w'
theorem rtext_of {n : Int} {w w' : World} {e : Ending} {l : List UInt8} (he : e = .returned (.string ⟨l.toArray⟩)) (h : l = Lib.itoa n) (hb : Below w.heap.size w w') : RText n w e w' := by
  subst h; exact ⟨he, hb⟩

set_option maxHeartbeats 2000000 in
theorem rtext_pos (n : Int) (w : World) (h1 : 10 ≤ n) (h2 : n ≤ 9223372036854775807) (ih : Hid (∀ w, Calls Tryd.prog 22 #[.int .i64 (n / 10)] w (RText (n / 10) w))) :
    Calls Tryd.prog 22 #[.int .i64 n] w (RText n w) := by
  have HI := Lib.hid (itoa_pos n h1)
  go_enter Tryd.func22, Tryd.ntmps22
  go_wp2_with fail
  refine (ih.out _).mono ?_; rintro e w1 ⟨rfl, hb⟩
  have g1 := Lib.itoa_length_le (n / 10) (by omega) (by omega)
  have g2 := dec_len (n % 10) (by omega) (by omega)
  generalize Lib.itoa (n / 10) = l1 at *
  go_wp2_with fail
  refine (rtext_dig (n % 10) _ (by omega) (by omega)).mono ?_; rintro e w2 ⟨rfl, hc⟩; replace hb := below_then hb hc; clear hc w1
  generalize Lib.decDigits (n % 10).toNat = l2 at *
  go_wp2
  go_ret
  exact rtext_of rfl HI.out hb

set_option maxHeartbeats 2000000 in
theorem rtext_low (n : Int) (w : World) (h1 : -10 < n) (h2 : n < 0) :
    Calls Tryd.prog 22 #[.int .i64 n] w (RText n w) := by
  have HI := Lib.hid (itoa_low n h2 h1)
  have hq : n.tdiv 10 = 0 := by
    rw [show n = -(-n) from by omega, Int.neg_tdiv, Int.tdiv_eq_ediv_of_nonneg (by omega)]; omega
  have hr : n.tmod 10 = n := by
    have := Int.tmod_add_mul_tdiv n 10
    omega
  go_enter Tryd.func22, Tryd.ntmps22
  go_wp2_with fail
  refine (rtext_dig (-n) _ (by omega) (by omega)).mono ?_; rintro e w1 ⟨rfl, hb⟩
  have g2 := dec_len (-n) (by omega) (by omega)
  generalize Lib.decDigits (-n).toNat = l2 at *
  go_wp2
  go_ret
  exact rtext_of (l := 45 :: l2) rfl HI.out hb

set_option maxHeartbeats 2000000 in
theorem rtext_neg (n q d : Int) (w : World) (h1 : n ≤ -10) (h2 : -9223372036854775808 ≤ n) (hq : n.tdiv 10 = q) (hr : n.tmod 10 = -d) (hd0 : 0 ≤ d) (hd1 : d < 10) (hq1 : q < 0) (hq2 : -9223372036854775808 ≤ q)
    (HI : Hid (Lib.itoa q ++ Lib.decDigits d.toNat = Lib.itoa n)) (ih : Hid (∀ w, Calls Tryd.prog 22 #[.int .i64 q] w (RText q w))) :
    Calls Tryd.prog 22 #[.int .i64 n] w (RText n w) := by
  have q0 : (q == 0) = false := beq_eq_false_iff_ne.2 (by omega)
  go_enter Tryd.func22, Tryd.ntmps22
  go_wp2_with fail
  refine (ih.out _).mono ?_; rintro e w1 ⟨rfl, hb⟩
  have g1 := Lib.itoa_length_le q (by omega) (by omega)
  have g2 := dec_len d hd0 hd1
  generalize Lib.itoa q = l1 at *
  go_wp2_with fail
  refine (rtext_dig d _ (by omega) (by omega)).mono ?_; rintro e w2 ⟨rfl, hc⟩; replace hb := below_then hb hc; clear hc w1
  generalize Lib.decDigits d.toNat = l2 at *
  go_wp2
  go_ret
  exact rtext_of rfl HI.out hb

theorem rtext_any : ∀ (m : Nat) (n : Int), n.natAbs = m → -9223372036854775808 ≤ n → n ≤ 9223372036854775807 → ∀ w, Calls Tryd.prog 22 #[.int .i64 n] w (RText n w) := by
  intro m
  induction m using Nat.strongRecOn with
  | _ m ih =>
    intro n hm h0 h1 w
    by_cases hp : 0 ≤ n
    · by_cases hs : n < 10
      · refine (rtext_dig n w hp hs).mono ?_
        rintro e w' ⟨he, hb⟩
        refine rtext_of he ?_ hb
        obtain ⟨u, rfl⟩ : ∃ u : Nat, n = (u : Int) := ⟨n.toNat, by omega⟩
        rw [Lib.itoa_nonneg]; simp
      · exact rtext_pos n w (by omega) h1 (Lib.hid (ih (n / 10).natAbs (by omega) (n / 10) rfl (by omega) (by omega)))
    · by_cases hs : -10 < n
      · exact rtext_low n w hs (by omega)
      · have e := Int.tmod_add_mul_tdiv n 10
        have hn : (n.tmod 10).natAbs < 10 := by rw [Int.natAbs_tmod]; exact Nat.mod_lt _ (by decide)
        have h2 : n.tmod 10 ≤ 0 := by
          have h2 := Int.tmod_nonneg 10 (show 0 ≤ -n by omega)
          rw [Int.neg_tmod] at h2; omega
        refine rtext_neg n (n.tdiv 10) (-(n.tmod 10)) w (by omega) h0 rfl (by omega) (by omega) (by omega) (by omega) (by omega) (Lib.hid (itoa_negs n _ _ (by omega) (by omega) (by omega) (by omega))) (Lib.hid (ih (n.tdiv 10).natAbs (by omega) (n.tdiv 10) rfl (by omega) (by omega)))
end Go.Proofs.YtnlodnkdppgddaaDoor
