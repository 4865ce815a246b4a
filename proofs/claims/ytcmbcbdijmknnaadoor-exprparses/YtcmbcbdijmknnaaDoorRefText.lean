/-
  DERIVED. Layer 3: contracts of the document's answers: leadlineref01.Text (from 0 on), leadlineref03's sign.
-/
import Derived.Test.YtcmbcbdijmknnaaDoorRefRight
import Derived.Test.YtcmbcbdijmknnaaDoorBackP
import Derived.Test.YtcmbcbdijmknnaaDoorText
import Derived.Laws.IdiomStrings
import Derived.Lib.ItoaLen
namespace Go.Proofs.YtcmbcbdijmknnaaDoor
open Go.RowKit
theorem conv_dig (n : Int) (h0 : 0 ≤ n) (h1 : n < 10) (w : World) : (convert 90 9 (.slice (some ⟨w.heap.size, 0, none⟩) 1 1)).run Tryd.prog (w.alloc (.cells #[.int .u8 (48 + n)] 5)) = .ok (.string ⟨(Lib.decDigits n.toNat).toArray⟩) (w.alloc (.cells #[.int .u8 (48 + n)] 5)) := by
  obtain ⟨k, rfl⟩ : ∃ k : Nat, n = (k : Int) := ⟨n.toNat, by omega⟩
  have hk : k < 10 := by omega
  have h := run_convert_bytes_back (P := Tryd.prog) (w.alloc (.cells #[.int .u8 (48 + (k : Int))] 5)) 90 9 5 ⟨w.heap.size, 0, none⟩ 1 [UInt8.ofNat (48 + k)] Tryd.underlying90 Tryd.underlying5 Tryd.underlying9 (fun j hj => by
    obtain rfl : j = 0 := by simp at hj; omega
    show (w.alloc (.cells #[.int .u8 (48 + (k : Int))] 5 _)).cell? ⟨w.heap.size, 0, none⟩ = _
    rw [World.cell?_alloc_mark]
    show some (Value.int .u8 (48 + (k : Int))) = some (.int .u8 ((UInt8.ofNat (48 + k)).toNat : Int))
    rw [(dig_of hk).2]; simp)
  rw [Int.toNat_natCast, dec_small hk]
  exact h

set_option maxHeartbeats 2000000 in
theorem rtext_dig (n : Int) (w : World) (h0 : 0 ≤ n) (h1 : n < 10) :
    Calls Tryd.prog 63 #[.int .i64 n] w fun e w' => e = .returned (.string ⟨(Lib.decDigits n.toNat).toArray⟩) ∧ Below w.heap.size w w' := by
  have hc := conv_dig n h0 h1
  generalize Lib.decDigits n.toNat = l at *
  go_enter Tryd.func63, Tryd.ntmps63
  go_wp2_with fail
  go_ret
  exact ⟨rfl, (Below.refl _ _).alloc (Nat.le_refl _) _⟩

theorem dec_len (n : Int) (h0 : 0 ≤ n) (h1 : n < 10) : (Lib.decDigits n.toNat).length ≤ 21 := by
  rw [dec_small (by omega)]; simp
theorem itoa_pos (n : Int) (h : 10 ≤ n) : Lib.itoa (n / 10) ++ Lib.decDigits (n % 10).toNat = Lib.itoa n := by
  obtain ⟨u, rfl⟩ : ∃ u : Nat, n = (u : Int) := ⟨n.toNat, by omega⟩
  rw [show (u : Int) / 10 = ((u / 10 : Nat) : Int) from by omega, show (u : Int) % 10 = ((u % 10 : Nat) : Int) from by omega, Int.toNat_natCast, Lib.itoa_nonneg, Lib.itoa_nonneg, dec_step (by omega : ¬ u < 10), dec_small (by omega : u % 10 < 10)]
def RText (n : Int) (w : World) (e : Ending) (w' : World) : Prop := e = .returned (.string ⟨(Lib.itoa n).toArray⟩) ∧ Below w.heap.size w w'
theorem rtext_of {n : Int} {w w' : World} {e : Ending} {l : List UInt8} (he : e = .returned (.string ⟨l.toArray⟩)) (h : l = Lib.itoa n) (hb : Below w.heap.size w w') : RText n w e w' := by
  subst h; exact ⟨he, hb⟩

set_option maxHeartbeats 2000000 in
theorem rtext_pos (n : Int) (w : World) (h1 : 10 ≤ n) (h2 : n ≤ 9223372036854775807) (ih : Hid (∀ w, Calls Tryd.prog 63 #[.int .i64 (n / 10)] w (RText (n / 10) w))) :
    Calls Tryd.prog 63 #[.int .i64 n] w (RText n w) := by
  have HI := Lib.hid (itoa_pos n h1)
  go_enter Tryd.func63, Tryd.ntmps63
  go_wp2_with fail
  refine (ih.out _).mono ?_; rintro e w1 ⟨rfl, hb⟩
  have g1 := Lib.itoa_length_le (n / 10) (by omega) (by omega)
  have g2 := dec_len (n % 10) (by omega) (by omega)
  generalize Lib.itoa (n / 10) = l1 at *
  go_wp2_with fail
  refine (rtext_dig (n % 10) _ (by omega) (by omega)).mono ?_; rintro e w2 ⟨rfl, hc⟩; replace hb := below_then hb hc; clear hc w1
  generalize Lib.decDigits (n % 10).toNat = l2 at *
  go_wp2
  go_ret
  exact rtext_of rfl HI.out hb


theorem rtext_any : ∀ (m : Nat) (n : Int), n.natAbs = m → 0 ≤ n → n ≤ 9223372036854775807 → ∀ w, Calls Tryd.prog 63 #[.int .i64 n] w (RText n w) := by
  intro m
  induction m using Nat.strongRecOn with
  | _ m ih =>
    intro n hm hp h1 w
    by_cases hs : n < 10
    · refine (rtext_dig n w hp hs).mono ?_
      rintro e w' ⟨he, hb⟩
      refine rtext_of he ?_ hb
      obtain ⟨u, rfl⟩ : ∃ u : Nat, n = (u : Int) := ⟨n.toNat, by omega⟩
      rw [Lib.itoa_nonneg]; simp
    · exact rtext_pos n w (by omega) h1 (Lib.hid (ih (n / 10).natAbs (by omega) (n / 10) rfl (by omega) (by omega)))

set_option maxRecDepth 100000 in
set_option maxHeartbeats 4000000 in
theorem rsign3_any (op : Int) (h0 : 3 ≤ op) (h1 : op ≤ 15) (w : World) : Calls Tryd.prog 53 #[.int .i64 op] w (GivesSB (signT op.toNat) w) := by
  have h : op = 3 ∨ op = 4 ∨ op = 5 ∨ op = 6 ∨ op = 7 ∨ op = 8 ∨ op = 9 ∨ op = 10 ∨ op = 11 ∨ op = 12 ∨ op = 13 ∨ op = 14 ∨ op = 15 := by omega
  clear h0 h1
  rcases h with rfl | rfl | rfl | rfl | rfl | rfl | rfl | rfl | rfl | rfl | rfl | rfl | rfl <;> (go_enter Tryd.func53, Tryd.ntmps53; go_wp2_with fail; go_ret; exact ⟨rfl, (Below.refl _ _).alloc (Nat.le_refl _) _⟩)
end Go.Proofs.YtcmbcbdijmknnaaDoor
