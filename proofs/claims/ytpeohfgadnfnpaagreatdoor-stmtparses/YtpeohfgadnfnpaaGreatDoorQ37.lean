/-
  DERIVED. Layer 4: rows of statements of a call's own are read; the calls whose answers the document fixes: each of them answers so, whatever the world that holds the tables.
-/
import Derived.Test.YtpeohfgadnfnpaaGreatDoorQ31
import Derived.Test.YtpeohfgadnfnpaaGreatDoorQ34
import Derived.Test.YtpeohfgadnfnpaaGreatDoorQ35
import Derived.Test.YtpeohfgadnfnpaaGreatDoorQ36
namespace Go.Proofs.YtpeohfgadnfnpaaGreatDoor
open Go.RowKit

/-- A cell of a row of statements. -/
theorem cellsV_at {K : List Sv} {i j : Nat} {x : Sv} (h : K[i]? = some x) (hj : j < 9) : (cellsV K)[i * 9 + j]? = (svCells x)[j]? := by
  obtain ⟨hi, rfl⟩ := List.getElem?_eq_some_iff.1 h
  have e : K = K.take i ++ ([K[i]] ++ K.drop (i + 1)) := by
    rw [List.singleton_append, ← List.drop_eq_getElem_cons hi, List.take_append_drop]
  have hl : (cellsV (K.take i)).length = i * 9 := by rw [cellsV_len, List.length_take, Nat.min_eq_left (by omega)]
  have e1 : cellsV [K[i]] = svCells K[i] := by simp [cellsV]
  have hx : (svCells K[i]).length = 9 := rfl
  conv => lhs; rw [e, cellsV_app, cellsV_app, e1]
  rw [List.getElem?_append_right (by omega), hl, Nat.add_sub_cancel_left, List.getElem?_append_left (by omega)]
theorem OwnS.read {w : World} {B : Nat} {v : Value} {M : List Stm} (h : OwnS w B v M) : ReadSt w v M := by
  obtain ⟨K, hM, ⟨hl, hr⟩, hrd⟩ := h
  have hlen : M.length = K.length := by rw [← hM, List.length_map]
  rcases hr with ⟨rfl, h0⟩ | ⟨g, cap, cur, rfl, hB, hh, hc, hm, hs, ht⟩
  · have : M = [] := List.eq_nil_of_length_eq_zero (by omega)
    subst this
    exact readSt_nil w
  · refine ⟨some ⟨g, 0, none⟩, cap, by rw [hlen], by rw [hlen]; exact hc, hm, fun i t hi => ?_⟩
    rw [← hM, List.getElem?_map] at hi
    cases hK : K[i]? with
    | none => rw [hK] at hi; cases hi
    | some x =>
      rw [hK] at hi
      obtain rfl : x.s = t := Option.some.inj hi
      obtain ⟨r1, r2⟩ := hrd x (List.mem_of_getElem? hK)
      obtain ⟨AE, cE, hvE, q1⟩ := r1.rd
      obtain ⟨AF, cF, hvF, q2⟩ := r2.rd
      have hiK := (List.getElem?_eq_some_iff.1 hK).1
      have hc9 : ∀ j u, j < 9 → (svCells x)[j]? = some u → w.cell? ⟨g, 0 + i * 9 + j, none⟩ = some u := by
        intro j u hj hu
        rw [Nat.zero_add, Lib.cell_of_heap hh]
        have h1 := cellsV_at hK hj
        rw [hu, ← ht, List.getElem?_take, if_pos (by have := Nat.mul_le_mul_right 9 hiK; omega), Array.getElem?_toList] at h1
        exact h1
      refine ⟨g, 0, AE, x.s.e.length, cE, AF, x.s.f.length, cF, rfl, (Array.getElem?_eq_some_iff.1 hh).1, hc9 0 _ (by omega) rfl, hc9 1 _ (by omega) rfl, hc9 2 _ (by omega) rfl, ?_, ?_, hc9 5 _ (by omega) rfl, hc9 6 _ (by omega) rfl, hc9 7 _ (by omega) rfl, hc9 8 _ (by omega) rfl, ?_, ?_⟩
      · rw [← hvE]; exact hc9 3 _ (by omega) rfl
      · rw [← hvF]; exact hc9 4 _ (by omega) rfl
      · rw [← hvE]; exact r1.rd
      · rw [← hvF]; exact r2.rd
theorem OwnS.form {w : World} {B : Nat} {v : Value} {M : List Stm} {n : Nat} (h : OwnS w B v M) (hn : M.length = n + 1) : ∃ g cap, v = .slice (some ⟨g, 0, none⟩) (n + 1) cap ∧ n + 1 ≤ cap ∧ cap ≤ 9223372036854775807 := by
  obtain ⟨K, hM, ⟨hl, hr⟩, hrd⟩ := h
  have hlen : M.length = K.length := by rw [← hM, List.length_map]
  rcases hr with ⟨rfl, h0⟩ | ⟨g, cap, cur, rfl, hB, hh, hc, hm, hs, ht⟩
  · omega
  · unfold maxLen at hm
    exact ⟨g, cap, by rw [← hlen, hn], by omega, by omega⟩
theorem ReadSt.at9 {w : World} {g n cap : Nat} {L : List Stm} (h : ReadSt w (.slice (some ⟨g, 0, none⟩) n cap) L) {i : Nat} {t : Stm} (hi : L[i]? = some t) : ∃ AE nE cE AF nF cF, At9 w g (i * 9) t AE nE cE AF nF cF := by
  obtain ⟨A, c, hv, hc, hm, hr⟩ := h
  obtain ⟨g', o, AE, nE, cE, AF, nF, cF, hA, h9⟩ := hr i t hi
  simp only [Value.slice.injEq] at hv
  obtain ⟨rfl, _, _⟩ := hv
  simp only [Option.some.injEq, Addr.mk.injEq] at hA
  obtain ⟨rfl, rfl, _⟩ := hA
  rw [Nat.zero_add] at h9
  exact ⟨AE, nE, cE, AF, nF, cF, h9⟩
/-- What the laws' tokens come back with. -/
def GivesT (l : List Tok) (w : World) (e : Ending) (w' : World) : Prop := ∃ v, e = .returned v ∧ OwnT w' w.heap.size v l ∧ Below w.heap.size w w'
set_option maxHeartbeats 1000000 in
theorem tokens_any (s : ByteArray) (w : World) (hs : s.size ≤ 4000) : Calls Tryz.prog 10 #[.string s] w (GivesT (scanL s.data.toList 0).toks w) := by
  generalize hf : scanL s.data.toList 0 = f
  have HF := Lib.hid hf
  clear hf
  go_enter Tryz.func10, Tryz.ntmps10
  go_wp2_with fail
  refine (rscan_any s _ hs).mono ?_
  rw [HF.out]
  rintro e w1 ⟨v, rfl, ho, hb⟩
  have HO := Lib.hid ho
  have HB := Lib.hid hb
  clear ho hb
  go_wp2_with fail
  go_ret
  exact ⟨v, rfl, HO.out, HB.out⟩
/-- A law's end: it is true, and nothing that was there has turned. -/
def IsTrue (w : World) (e : Ending) (w' : World) : Prop := e = .returned (.bool true) ∧ Below w.heap.size w w'
instance (L : List Tok) : Decidable (SmallT L) := by unfold SmallT; infer_instance
instance (L : List Nod) : Decidable (SmallN L) := by unfold SmallN; infer_instance
instance (x : Stm) : Decidable (SmallS x) := by unfold SmallS; infer_instance
deriving instance DecidableEq for ParsedS

theorem scan_tok_step {c : UInt8} {r r' : List UInt8} {a : Nat} {k n : Int} {t : List UInt8} {T : List Tok} (h : cutOf (c :: r) = ⟨0, k, t, n⟩) (hb : blkB c = false) (hm : isRem (c :: r) = false) (hl : (c :: r).drop t.length = r') (hr : scanL r' (a + t.length) = .fine T) : scanL (c :: r) a = .fine (⟨k, t, n, a⟩ :: T) := by
  rw [scanL_tok r a hb hm (by rw [h]), h]
  simp only
  rw [hl, hr, pre_fine]
  rfl
theorem sk1_35 : scanL [] 35 = .fine [] := rfl
theorem sk1_34 : scanL [120] 34 = .fine [⟨1, [120], 0, 34⟩] := scan_tok_step (k := 1) (t := [120]) (n := 0) (by decide +kernel) rfl rfl rfl sk1_35
theorem sk1_33 : scanL [32, 120] 33 = .fine [⟨1, [120], 0, 34⟩] := (scanL_blank _ _ (by decide)).trans sk1_34
theorem sk1_32 : scanL [125, 32, 120] 32 = .fine [⟨3, [125], 0, 32⟩, ⟨1, [120], 0, 34⟩] := scan_tok_step (k := 3) (t := [125]) (n := 0) (by decide +kernel) rfl rfl rfl sk1_33
theorem sk1_31 : scanL [32, 125, 32, 120] 31 = .fine [⟨3, [125], 0, 32⟩, ⟨1, [120], 0, 34⟩] := (scanL_blank _ _ (by decide)).trans sk1_32
theorem sk1_30 : scanL [125, 32, 125, 32, 120] 30 = .fine [⟨3, [125], 0, 30⟩, ⟨3, [125], 0, 32⟩, ⟨1, [120], 0, 34⟩] := scan_tok_step (k := 3) (t := [125]) (n := 0) (by decide +kernel) rfl rfl rfl sk1_31
theorem sk1_29 : scanL [32, 125, 32, 125, 32, 120] 29 = .fine [⟨3, [125], 0, 30⟩, ⟨3, [125], 0, 32⟩, ⟨1, [120], 0, 34⟩] := (scanL_blank _ _ (by decide)).trans sk1_30
theorem sk1_28 : scanL [59, 32, 125, 32, 125, 32, 120] 28 = .fine [⟨3, [59], 0, 28⟩, ⟨3, [125], 0, 30⟩, ⟨3, [125], 0, 32⟩, ⟨1, [120], 0, 34⟩] := scan_tok_step (k := 3) (t := [59]) (n := 0) (by decide +kernel) rfl rfl rfl sk1_29
theorem sk1_23 : scanL [98, 114, 101, 97, 107, 59, 32, 125, 32, 125, 32, 120] 23 = .fine [⟨1, [98, 114, 101, 97, 107], 0, 23⟩, ⟨3, [59], 0, 28⟩, ⟨3, [125], 0, 30⟩, ⟨3, [125], 0, 32⟩, ⟨1, [120], 0, 34⟩] := scan_tok_step (k := 1) (t := [98, 114, 101, 97, 107]) (n := 0) (by decide +kernel) rfl rfl rfl sk1_28
theorem sk1_22 : scanL [32, 98, 114, 101, 97, 107, 59, 32, 125, 32, 125, 32, 120] 22 = .fine [⟨1, [98, 114, 101, 97, 107], 0, 23⟩, ⟨3, [59], 0, 28⟩, ⟨3, [125], 0, 30⟩, ⟨3, [125], 0, 32⟩, ⟨1, [120], 0, 34⟩] := (scanL_blank _ _ (by decide)).trans sk1_23
theorem sk1_21 : scanL [59, 32, 98, 114, 101, 97, 107, 59, 32, 125, 32, 125, 32, 120] 21 = .fine [⟨3, [59], 0, 21⟩, ⟨1, [98, 114, 101, 97, 107], 0, 23⟩, ⟨3, [59], 0, 28⟩, ⟨3, [125], 0, 30⟩, ⟨3, [125], 0, 32⟩, ⟨1, [120], 0, 34⟩] := scan_tok_step (k := 3) (t := [59]) (n := 0) (by decide +kernel) rfl rfl rfl sk1_22
theorem sk1_20 : scanL [97, 59, 32, 98, 114, 101, 97, 107, 59, 32, 125, 32, 125, 32, 120] 20 = .fine [⟨1, [97], 0, 20⟩, ⟨3, [59], 0, 21⟩, ⟨1, [98, 114, 101, 97, 107], 0, 23⟩, ⟨3, [59], 0, 28⟩, ⟨3, [125], 0, 30⟩, ⟨3, [125], 0, 32⟩, ⟨1, [120], 0, 34⟩] := scan_tok_step (k := 1) (t := [97]) (n := 0) (by decide +kernel) rfl rfl rfl sk1_21
theorem sk1_19 : scanL [32, 97, 59, 32, 98, 114, 101, 97, 107, 59, 32, 125, 32, 125, 32, 120] 19 = .fine [⟨1, [97], 0, 20⟩, ⟨3, [59], 0, 21⟩, ⟨1, [98, 114, 101, 97, 107], 0, 23⟩, ⟨3, [59], 0, 28⟩, ⟨3, [125], 0, 30⟩, ⟨3, [125], 0, 32⟩, ⟨1, [120], 0, 34⟩] := (scanL_blank _ _ (by decide)).trans sk1_20
theorem sk1_18 : scanL [61, 32, 97, 59, 32, 98, 114, 101, 97, 107, 59, 32, 125, 32, 125, 32, 120] 18 = .fine [⟨3, [61], 0, 18⟩, ⟨1, [97], 0, 20⟩, ⟨3, [59], 0, 21⟩, ⟨1, [98, 114, 101, 97, 107], 0, 23⟩, ⟨3, [59], 0, 28⟩, ⟨3, [125], 0, 30⟩, ⟨3, [125], 0, 32⟩, ⟨1, [120], 0, 34⟩] := scan_tok_step (k := 3) (t := [61]) (n := 0) (by decide +kernel) rfl rfl rfl sk1_19
theorem sk1_17 : scanL [32, 61, 32, 97, 59, 32, 98, 114, 101, 97, 107, 59, 32, 125, 32, 125, 32, 120] 17 = .fine [⟨3, [61], 0, 18⟩, ⟨1, [97], 0, 20⟩, ⟨3, [59], 0, 21⟩, ⟨1, [98, 114, 101, 97, 107], 0, 23⟩, ⟨3, [59], 0, 28⟩, ⟨3, [125], 0, 30⟩, ⟨3, [125], 0, 32⟩, ⟨1, [120], 0, 34⟩] := (scanL_blank _ _ (by decide)).trans sk1_18
theorem sk1_16 : scanL [114, 32, 61, 32, 97, 59, 32, 98, 114, 101, 97, 107, 59, 32, 125, 32, 125, 32, 120] 16 = .fine [⟨1, [114], 0, 16⟩, ⟨3, [61], 0, 18⟩, ⟨1, [97], 0, 20⟩, ⟨3, [59], 0, 21⟩, ⟨1, [98, 114, 101, 97, 107], 0, 23⟩, ⟨3, [59], 0, 28⟩, ⟨3, [125], 0, 30⟩, ⟨3, [125], 0, 32⟩, ⟨1, [120], 0, 34⟩] := scan_tok_step (k := 1) (t := [114]) (n := 0) (by decide +kernel) rfl rfl rfl sk1_17
theorem sk1_15 : scanL [32, 114, 32, 61, 32, 97, 59, 32, 98, 114, 101, 97, 107, 59, 32, 125, 32, 125, 32, 120] 15 = .fine [⟨1, [114], 0, 16⟩, ⟨3, [61], 0, 18⟩, ⟨1, [97], 0, 20⟩, ⟨3, [59], 0, 21⟩, ⟨1, [98, 114, 101, 97, 107], 0, 23⟩, ⟨3, [59], 0, 28⟩, ⟨3, [125], 0, 30⟩, ⟨3, [125], 0, 32⟩, ⟨1, [120], 0, 34⟩] := (scanL_blank _ _ (by decide)).trans sk1_16
theorem sk1_11 : scanL [108, 111, 97, 100, 32, 114, 32, 61, 32, 97, 59, 32, 98, 114, 101, 97, 107, 59, 32, 125, 32, 125, 32, 120] 11 = .fine [⟨1, [108, 111, 97, 100], 0, 11⟩, ⟨1, [114], 0, 16⟩, ⟨3, [61], 0, 18⟩, ⟨1, [97], 0, 20⟩, ⟨3, [59], 0, 21⟩, ⟨1, [98, 114, 101, 97, 107], 0, 23⟩, ⟨3, [59], 0, 28⟩, ⟨3, [125], 0, 30⟩, ⟨3, [125], 0, 32⟩, ⟨1, [120], 0, 34⟩] := scan_tok_step (k := 1) (t := [108, 111, 97, 100]) (n := 0) (by decide +kernel) rfl rfl rfl sk1_15
theorem sk1_10 : scanL [32, 108, 111, 97, 100, 32, 114, 32, 61, 32, 97, 59, 32, 98, 114, 101, 97, 107, 59, 32, 125, 32, 125, 32, 120] 10 = .fine [⟨1, [108, 111, 97, 100], 0, 11⟩, ⟨1, [114], 0, 16⟩, ⟨3, [61], 0, 18⟩, ⟨1, [97], 0, 20⟩, ⟨3, [59], 0, 21⟩, ⟨1, [98, 114, 101, 97, 107], 0, 23⟩, ⟨3, [59], 0, 28⟩, ⟨3, [125], 0, 30⟩, ⟨3, [125], 0, 32⟩, ⟨1, [120], 0, 34⟩] := (scanL_blank _ _ (by decide)).trans sk1_11
theorem sk1_9 : scanL [123, 32, 108, 111, 97, 100, 32, 114, 32, 61, 32, 97, 59, 32, 98, 114, 101, 97, 107, 59, 32, 125, 32, 125, 32, 120] 9 = .fine [⟨3, [123], 0, 9⟩, ⟨1, [108, 111, 97, 100], 0, 11⟩, ⟨1, [114], 0, 16⟩, ⟨3, [61], 0, 18⟩, ⟨1, [97], 0, 20⟩, ⟨3, [59], 0, 21⟩, ⟨1, [98, 114, 101, 97, 107], 0, 23⟩, ⟨3, [59], 0, 28⟩, ⟨3, [125], 0, 30⟩, ⟨3, [125], 0, 32⟩, ⟨1, [120], 0, 34⟩] := scan_tok_step (k := 3) (t := [123]) (n := 0) (by decide +kernel) rfl rfl rfl sk1_10
theorem sk1_8 : scanL [32, 123, 32, 108, 111, 97, 100, 32, 114, 32, 61, 32, 97, 59, 32, 98, 114, 101, 97, 107, 59, 32, 125, 32, 125, 32, 120] 8 = .fine [⟨3, [123], 0, 9⟩, ⟨1, [108, 111, 97, 100], 0, 11⟩, ⟨1, [114], 0, 16⟩, ⟨3, [61], 0, 18⟩, ⟨1, [97], 0, 20⟩, ⟨3, [59], 0, 21⟩, ⟨1, [98, 114, 101, 97, 107], 0, 23⟩, ⟨3, [59], 0, 28⟩, ⟨3, [125], 0, 30⟩, ⟨3, [125], 0, 32⟩, ⟨1, [120], 0, 34⟩] := (scanL_blank _ _ (by decide)).trans sk1_9
theorem sk1_7 : scanL [50, 32, 123, 32, 108, 111, 97, 100, 32, 114, 32, 61, 32, 97, 59, 32, 98, 114, 101, 97, 107, 59, 32, 125, 32, 125, 32, 120] 7 = .fine [⟨2, [50], 2, 7⟩, ⟨3, [123], 0, 9⟩, ⟨1, [108, 111, 97, 100], 0, 11⟩, ⟨1, [114], 0, 16⟩, ⟨3, [61], 0, 18⟩, ⟨1, [97], 0, 20⟩, ⟨3, [59], 0, 21⟩, ⟨1, [98, 114, 101, 97, 107], 0, 23⟩, ⟨3, [59], 0, 28⟩, ⟨3, [125], 0, 30⟩, ⟨3, [125], 0, 32⟩, ⟨1, [120], 0, 34⟩] := scan_tok_step (k := 2) (t := [50]) (n := 2) (by decide +kernel) rfl rfl rfl sk1_8
theorem sk1_6 : scanL [32, 50, 32, 123, 32, 108, 111, 97, 100, 32, 114, 32, 61, 32, 97, 59, 32, 98, 114, 101, 97, 107, 59, 32, 125, 32, 125, 32, 120] 6 = .fine [⟨2, [50], 2, 7⟩, ⟨3, [123], 0, 9⟩, ⟨1, [108, 111, 97, 100], 0, 11⟩, ⟨1, [114], 0, 16⟩, ⟨3, [61], 0, 18⟩, ⟨1, [97], 0, 20⟩, ⟨3, [59], 0, 21⟩, ⟨1, [98, 114, 101, 97, 107], 0, 23⟩, ⟨3, [59], 0, 28⟩, ⟨3, [125], 0, 30⟩, ⟨3, [125], 0, 32⟩, ⟨1, [120], 0, 34⟩] := (scanL_blank _ _ (by decide)).trans sk1_7
theorem sk1_2 : scanL [108, 111, 111, 112, 32, 50, 32, 123, 32, 108, 111, 97, 100, 32, 114, 32, 61, 32, 97, 59, 32, 98, 114, 101, 97, 107, 59, 32, 125, 32, 125, 32, 120] 2 = .fine [⟨1, [108, 111, 111, 112], 0, 2⟩, ⟨2, [50], 2, 7⟩, ⟨3, [123], 0, 9⟩, ⟨1, [108, 111, 97, 100], 0, 11⟩, ⟨1, [114], 0, 16⟩, ⟨3, [61], 0, 18⟩, ⟨1, [97], 0, 20⟩, ⟨3, [59], 0, 21⟩, ⟨1, [98, 114, 101, 97, 107], 0, 23⟩, ⟨3, [59], 0, 28⟩, ⟨3, [125], 0, 30⟩, ⟨3, [125], 0, 32⟩, ⟨1, [120], 0, 34⟩] := scan_tok_step (k := 1) (t := [108, 111, 111, 112]) (n := 0) (by decide +kernel) rfl rfl rfl sk1_6
theorem sk1_1 : scanL [32, 108, 111, 111, 112, 32, 50, 32, 123, 32, 108, 111, 97, 100, 32, 114, 32, 61, 32, 97, 59, 32, 98, 114, 101, 97, 107, 59, 32, 125, 32, 125, 32, 120] 1 = .fine [⟨1, [108, 111, 111, 112], 0, 2⟩, ⟨2, [50], 2, 7⟩, ⟨3, [123], 0, 9⟩, ⟨1, [108, 111, 97, 100], 0, 11⟩, ⟨1, [114], 0, 16⟩, ⟨3, [61], 0, 18⟩, ⟨1, [97], 0, 20⟩, ⟨3, [59], 0, 21⟩, ⟨1, [98, 114, 101, 97, 107], 0, 23⟩, ⟨3, [59], 0, 28⟩, ⟨3, [125], 0, 30⟩, ⟨3, [125], 0, 32⟩, ⟨1, [120], 0, 34⟩] := (scanL_blank _ _ (by decide)).trans sk1_2
theorem sk1_0 : scanL [123, 32, 108, 111, 111, 112, 32, 50, 32, 123, 32, 108, 111, 97, 100, 32, 114, 32, 61, 32, 97, 59, 32, 98, 114, 101, 97, 107, 59, 32, 125, 32, 125, 32, 120] 0 = .fine [⟨3, [123], 0, 0⟩, ⟨1, [108, 111, 111, 112], 0, 2⟩, ⟨2, [50], 2, 7⟩, ⟨3, [123], 0, 9⟩, ⟨1, [108, 111, 97, 100], 0, 11⟩, ⟨1, [114], 0, 16⟩, ⟨3, [61], 0, 18⟩, ⟨1, [97], 0, 20⟩, ⟨3, [59], 0, 21⟩, ⟨1, [98, 114, 101, 97, 107], 0, 23⟩, ⟨3, [59], 0, 28⟩, ⟨3, [125], 0, 30⟩, ⟨3, [125], 0, 32⟩, ⟨1, [120], 0, 34⟩] := scan_tok_step (k := 3) (t := [123]) (n := 0) (by decide +kernel) rfl rfl rfl sk1_1
def tk1 : List Tok := [⟨3, [123], 0, 0⟩, ⟨1, [108, 111, 111, 112], 0, 2⟩, ⟨2, [50], 2, 7⟩, ⟨3, [123], 0, 9⟩, ⟨1, [108, 111, 97, 100], 0, 11⟩, ⟨1, [114], 0, 16⟩, ⟨3, [61], 0, 18⟩, ⟨1, [97], 0, 20⟩, ⟨3, [59], 0, 21⟩, ⟨1, [98, 114, 101, 97, 107], 0, 23⟩, ⟨3, [59], 0, 28⟩, ⟨3, [125], 0, 30⟩, ⟨3, [125], 0, 32⟩, ⟨1, [120], 0, 34⟩]
theorem ft1 (w : World) : Calls Tryz.prog 10 #[.string ⟨#[123, 32, 108, 111, 111, 112, 32, 50, 32, 123, 32, 108, 111, 97, 100, 32, 114, 32, 61, 32, 97, 59, 32, 98, 114, 101, 97, 107, 59, 32, 125, 32, 125, 32, 120]⟩] w (GivesT tk1 w) := by
  have h := tokens_any ⟨#[123, 32, 108, 111, 111, 112, 32, 50, 32, 123, 32, 108, 111, 97, 100, 32, 114, 32, 61, 32, 97, 59, 32, 98, 114, 101, 97, 107, 59, 32, 125, 32, 125, 32, 120]⟩ w (by decide)
  rwa [show (scanL (ByteArray.mk #[123, 32, 108, 111, 111, 112, 32, 50, 32, 123, 32, 108, 111, 97, 100, 32, 114, 32, 61, 32, 97, 59, 32, 98, 114, 101, 97, 107, 59, 32, 125, 32, 125, 32, 120]).data.toList 0).toks = tk1 from congrArg Found.toks sk1_0] at h
theorem fits1 : tk1.length ≤ 10000 ∧ SmallT tk1 := by decide +kernel
theorem sk2_10 : scanL [] 10 = .fine [] := rfl
theorem sk2_9 : scanL [125] 9 = .fine [⟨3, [125], 0, 9⟩] := scan_tok_step (k := 3) (t := [125]) (n := 0) (by decide +kernel) rfl rfl rfl sk2_10
theorem sk2_8 : scanL [32, 125] 8 = .fine [⟨3, [125], 0, 9⟩] := (scanL_blank _ _ (by decide)).trans sk2_9
theorem sk2_7 : scanL [59, 32, 125] 7 = .fine [⟨3, [59], 0, 7⟩, ⟨3, [125], 0, 9⟩] := scan_tok_step (k := 3) (t := [59]) (n := 0) (by decide +kernel) rfl rfl rfl sk2_8
theorem sk2_2 : scanL [98, 114, 101, 97, 107, 59, 32, 125] 2 = .fine [⟨1, [98, 114, 101, 97, 107], 0, 2⟩, ⟨3, [59], 0, 7⟩, ⟨3, [125], 0, 9⟩] := scan_tok_step (k := 1) (t := [98, 114, 101, 97, 107]) (n := 0) (by decide +kernel) rfl rfl rfl sk2_7
theorem sk2_1 : scanL [32, 98, 114, 101, 97, 107, 59, 32, 125] 1 = .fine [⟨1, [98, 114, 101, 97, 107], 0, 2⟩, ⟨3, [59], 0, 7⟩, ⟨3, [125], 0, 9⟩] := (scanL_blank _ _ (by decide)).trans sk2_2
theorem sk2_0 : scanL [123, 32, 98, 114, 101, 97, 107, 59, 32, 125] 0 = .fine [⟨3, [123], 0, 0⟩, ⟨1, [98, 114, 101, 97, 107], 0, 2⟩, ⟨3, [59], 0, 7⟩, ⟨3, [125], 0, 9⟩] := scan_tok_step (k := 3) (t := [123]) (n := 0) (by decide +kernel) rfl rfl rfl sk2_1
def tk2 : List Tok := [⟨3, [123], 0, 0⟩, ⟨1, [98, 114, 101, 97, 107], 0, 2⟩, ⟨3, [59], 0, 7⟩, ⟨3, [125], 0, 9⟩]
theorem ft2 (w : World) : Calls Tryz.prog 10 #[.string ⟨#[123, 32, 98, 114, 101, 97, 107, 59, 32, 125]⟩] w (GivesT tk2 w) := by
  have h := tokens_any ⟨#[123, 32, 98, 114, 101, 97, 107, 59, 32, 125]⟩ w (by decide)
  rwa [show (scanL (ByteArray.mk #[123, 32, 98, 114, 101, 97, 107, 59, 32, 125]).data.toList 0).toks = tk2 from congrArg Found.toks sk2_0] at h
theorem fits2 : tk2.length ≤ 10000 ∧ SmallT tk2 := by decide +kernel
theorem sk3_14 : scanL [] 14 = .fine [] := rfl
theorem sk3_13 : scanL [125] 13 = .fine [⟨3, [125], 0, 13⟩] := scan_tok_step (k := 3) (t := [125]) (n := 0) (by decide +kernel) rfl rfl rfl sk3_14
theorem sk3_12 : scanL [32, 125] 12 = .fine [⟨3, [125], 0, 13⟩] := (scanL_blank _ _ (by decide)).trans sk3_13
theorem sk3_11 : scanL [125, 32, 125] 11 = .fine [⟨3, [125], 0, 11⟩, ⟨3, [125], 0, 13⟩] := scan_tok_step (k := 3) (t := [125]) (n := 0) (by decide +kernel) rfl rfl rfl sk3_12
theorem sk3_10 : scanL [32, 125, 32, 125] 10 = .fine [⟨3, [125], 0, 11⟩, ⟨3, [125], 0, 13⟩] := (scanL_blank _ _ (by decide)).trans sk3_11
theorem sk3_9 : scanL [123, 32, 125, 32, 125] 9 = .fine [⟨3, [123], 0, 9⟩, ⟨3, [125], 0, 11⟩, ⟨3, [125], 0, 13⟩] := scan_tok_step (k := 3) (t := [123]) (n := 0) (by decide +kernel) rfl rfl rfl sk3_10
theorem sk3_8 : scanL [32, 123, 32, 125, 32, 125] 8 = .fine [⟨3, [123], 0, 9⟩, ⟨3, [125], 0, 11⟩, ⟨3, [125], 0, 13⟩] := (scanL_blank _ _ (by decide)).trans sk3_9
theorem sk3_7 : scanL [57, 32, 123, 32, 125, 32, 125] 7 = .fine [⟨2, [57], 9, 7⟩, ⟨3, [123], 0, 9⟩, ⟨3, [125], 0, 11⟩, ⟨3, [125], 0, 13⟩] := scan_tok_step (k := 2) (t := [57]) (n := 9) (by decide +kernel) rfl rfl rfl sk3_8
theorem sk3_6 : scanL [32, 57, 32, 123, 32, 125, 32, 125] 6 = .fine [⟨2, [57], 9, 7⟩, ⟨3, [123], 0, 9⟩, ⟨3, [125], 0, 11⟩, ⟨3, [125], 0, 13⟩] := (scanL_blank _ _ (by decide)).trans sk3_7
theorem sk3_2 : scanL [108, 111, 111, 112, 32, 57, 32, 123, 32, 125, 32, 125] 2 = .fine [⟨1, [108, 111, 111, 112], 0, 2⟩, ⟨2, [57], 9, 7⟩, ⟨3, [123], 0, 9⟩, ⟨3, [125], 0, 11⟩, ⟨3, [125], 0, 13⟩] := scan_tok_step (k := 1) (t := [108, 111, 111, 112]) (n := 0) (by decide +kernel) rfl rfl rfl sk3_6
theorem sk3_1 : scanL [32, 108, 111, 111, 112, 32, 57, 32, 123, 32, 125, 32, 125] 1 = .fine [⟨1, [108, 111, 111, 112], 0, 2⟩, ⟨2, [57], 9, 7⟩, ⟨3, [123], 0, 9⟩, ⟨3, [125], 0, 11⟩, ⟨3, [125], 0, 13⟩] := (scanL_blank _ _ (by decide)).trans sk3_2
theorem sk3_0 : scanL [123, 32, 108, 111, 111, 112, 32, 57, 32, 123, 32, 125, 32, 125] 0 = .fine [⟨3, [123], 0, 0⟩, ⟨1, [108, 111, 111, 112], 0, 2⟩, ⟨2, [57], 9, 7⟩, ⟨3, [123], 0, 9⟩, ⟨3, [125], 0, 11⟩, ⟨3, [125], 0, 13⟩] := scan_tok_step (k := 3) (t := [123]) (n := 0) (by decide +kernel) rfl rfl rfl sk3_1
def tk3 : List Tok := [⟨3, [123], 0, 0⟩, ⟨1, [108, 111, 111, 112], 0, 2⟩, ⟨2, [57], 9, 7⟩, ⟨3, [123], 0, 9⟩, ⟨3, [125], 0, 11⟩, ⟨3, [125], 0, 13⟩]
theorem ft3 (w : World) : Calls Tryz.prog 10 #[.string ⟨#[123, 32, 108, 111, 111, 112, 32, 57, 32, 123, 32, 125, 32, 125]⟩] w (GivesT tk3 w) := by
  have h := tokens_any ⟨#[123, 32, 108, 111, 111, 112, 32, 57, 32, 123, 32, 125, 32, 125]⟩ w (by decide)
  rwa [show (scanL (ByteArray.mk #[123, 32, 108, 111, 111, 112, 32, 57, 32, 123, 32, 125, 32, 125]).data.toList 0).toks = tk3 from congrArg Found.toks sk3_0] at h
theorem fits3 : tk3.length ≤ 10000 ∧ SmallT tk3 := by decide +kernel
theorem sk4_14 : scanL [] 14 = .fine [] := rfl
theorem sk4_13 : scanL [49] 13 = .fine [⟨2, [49], 1, 13⟩] := scan_tok_step (k := 2) (t := [49]) (n := 1) (by decide +kernel) rfl rfl rfl sk4_14
theorem sk4_12 : scanL [32, 49] 12 = .fine [⟨2, [49], 1, 13⟩] := (scanL_blank _ _ (by decide)).trans sk4_13
theorem sk4_11 : scanL [44, 32, 49] 11 = .fine [⟨3, [44], 0, 11⟩, ⟨2, [49], 1, 13⟩] := scan_tok_step (k := 3) (t := [44]) (n := 0) (by decide +kernel) rfl rfl rfl sk4_12
theorem sk4_10 : scanL [97, 44, 32, 49] 10 = .fine [⟨1, [97], 0, 10⟩, ⟨3, [44], 0, 11⟩, ⟨2, [49], 1, 13⟩] := scan_tok_step (k := 1) (t := [97]) (n := 0) (by decide +kernel) rfl rfl rfl sk4_11
theorem sk4_9 : scanL [32, 97, 44, 32, 49] 9 = .fine [⟨1, [97], 0, 10⟩, ⟨3, [44], 0, 11⟩, ⟨2, [49], 1, 13⟩] := (scanL_blank _ _ (by decide)).trans sk4_10
theorem sk4_8 : scanL [61, 32, 97, 44, 32, 49] 8 = .fine [⟨3, [61], 0, 8⟩, ⟨1, [97], 0, 10⟩, ⟨3, [44], 0, 11⟩, ⟨2, [49], 1, 13⟩] := scan_tok_step (k := 3) (t := [61]) (n := 0) (by decide +kernel) rfl rfl rfl sk4_9
theorem sk4_7 : scanL [32, 61, 32, 97, 44, 32, 49] 7 = .fine [⟨3, [61], 0, 8⟩, ⟨1, [97], 0, 10⟩, ⟨3, [44], 0, 11⟩, ⟨2, [49], 1, 13⟩] := (scanL_blank _ _ (by decide)).trans sk4_8
theorem sk4_6 : scanL [114, 32, 61, 32, 97, 44, 32, 49] 6 = .fine [⟨1, [114], 0, 6⟩, ⟨3, [61], 0, 8⟩, ⟨1, [97], 0, 10⟩, ⟨3, [44], 0, 11⟩, ⟨2, [49], 1, 13⟩] := scan_tok_step (k := 1) (t := [114]) (n := 0) (by decide +kernel) rfl rfl rfl sk4_7
theorem sk4_5 : scanL [32, 114, 32, 61, 32, 97, 44, 32, 49] 5 = .fine [⟨1, [114], 0, 6⟩, ⟨3, [61], 0, 8⟩, ⟨1, [97], 0, 10⟩, ⟨3, [44], 0, 11⟩, ⟨2, [49], 1, 13⟩] := (scanL_blank _ _ (by decide)).trans sk4_6
theorem sk4_2 : scanL [99, 97, 115, 32, 114, 32, 61, 32, 97, 44, 32, 49] 2 = .fine [⟨1, [99, 97, 115], 0, 2⟩, ⟨1, [114], 0, 6⟩, ⟨3, [61], 0, 8⟩, ⟨1, [97], 0, 10⟩, ⟨3, [44], 0, 11⟩, ⟨2, [49], 1, 13⟩] := scan_tok_step (k := 1) (t := [99, 97, 115]) (n := 0) (by decide +kernel) rfl rfl rfl sk4_5
theorem sk4_1 : scanL [32, 99, 97, 115, 32, 114, 32, 61, 32, 97, 44, 32, 49] 1 = .fine [⟨1, [99, 97, 115], 0, 2⟩, ⟨1, [114], 0, 6⟩, ⟨3, [61], 0, 8⟩, ⟨1, [97], 0, 10⟩, ⟨3, [44], 0, 11⟩, ⟨2, [49], 1, 13⟩] := (scanL_blank _ _ (by decide)).trans sk4_2
theorem sk4_0 : scanL [123, 32, 99, 97, 115, 32, 114, 32, 61, 32, 97, 44, 32, 49] 0 = .fine [⟨3, [123], 0, 0⟩, ⟨1, [99, 97, 115], 0, 2⟩, ⟨1, [114], 0, 6⟩, ⟨3, [61], 0, 8⟩, ⟨1, [97], 0, 10⟩, ⟨3, [44], 0, 11⟩, ⟨2, [49], 1, 13⟩] := scan_tok_step (k := 3) (t := [123]) (n := 0) (by decide +kernel) rfl rfl rfl sk4_1
def tk4 : List Tok := [⟨3, [123], 0, 0⟩, ⟨1, [99, 97, 115], 0, 2⟩, ⟨1, [114], 0, 6⟩, ⟨3, [61], 0, 8⟩, ⟨1, [97], 0, 10⟩, ⟨3, [44], 0, 11⟩, ⟨2, [49], 1, 13⟩]
theorem ft4 (w : World) : Calls Tryz.prog 10 #[.string ⟨#[123, 32, 99, 97, 115, 32, 114, 32, 61, 32, 97, 44, 32, 49]⟩] w (GivesT tk4 w) := by
  have h := tokens_any ⟨#[123, 32, 99, 97, 115, 32, 114, 32, 61, 32, 97, 44, 32, 49]⟩ w (by decide)
  rwa [show (scanL (ByteArray.mk #[123, 32, 99, 97, 115, 32, 114, 32, 61, 32, 97, 44, 32, 49]).data.toList 0).toks = tk4 from congrArg Found.toks sk4_0] at h
theorem fits4 : tk4.length ≤ 10000 ∧ SmallT tk4 := by decide +kernel
theorem sk5_38 : scanL [] 38 = .fine [] := rfl
theorem sk5_37 : scanL [125] 37 = .fine [⟨3, [125], 0, 37⟩] := scan_tok_step (k := 3) (t := [125]) (n := 0) (by decide +kernel) rfl rfl rfl sk5_38
theorem sk5_36 : scanL [32, 125] 36 = .fine [⟨3, [125], 0, 37⟩] := (scanL_blank _ _ (by decide)).trans sk5_37
theorem sk5_35 : scanL [59, 32, 125] 35 = .fine [⟨3, [59], 0, 35⟩, ⟨3, [125], 0, 37⟩] := scan_tok_step (k := 3) (t := [59]) (n := 0) (by decide +kernel) rfl rfl rfl sk5_36
theorem sk5_34 : scanL [49, 59, 32, 125] 34 = .fine [⟨2, [49], 1, 34⟩, ⟨3, [59], 0, 35⟩, ⟨3, [125], 0, 37⟩] := scan_tok_step (k := 2) (t := [49]) (n := 1) (by decide +kernel) rfl rfl rfl sk5_35
theorem sk5_33 : scanL [32, 49, 59, 32, 125] 33 = .fine [⟨2, [49], 1, 34⟩, ⟨3, [59], 0, 35⟩, ⟨3, [125], 0, 37⟩] := (scanL_blank _ _ (by decide)).trans sk5_34
theorem sk5_32 : scanL [43, 32, 49, 59, 32, 125] 32 = .fine [⟨3, [43], 0, 32⟩, ⟨2, [49], 1, 34⟩, ⟨3, [59], 0, 35⟩, ⟨3, [125], 0, 37⟩] := scan_tok_step (k := 3) (t := [43]) (n := 0) (by decide +kernel) rfl rfl rfl sk5_33
theorem sk5_31 : scanL [32, 43, 32, 49, 59, 32, 125] 31 = .fine [⟨3, [43], 0, 32⟩, ⟨2, [49], 1, 34⟩, ⟨3, [59], 0, 35⟩, ⟨3, [125], 0, 37⟩] := (scanL_blank _ _ (by decide)).trans sk5_32
theorem sk5_30 : scanL [114, 32, 43, 32, 49, 59, 32, 125] 30 = .fine [⟨1, [114], 0, 30⟩, ⟨3, [43], 0, 32⟩, ⟨2, [49], 1, 34⟩, ⟨3, [59], 0, 35⟩, ⟨3, [125], 0, 37⟩] := scan_tok_step (k := 1) (t := [114]) (n := 0) (by decide +kernel) rfl rfl rfl sk5_31
theorem sk5_29 : scanL [32, 114, 32, 43, 32, 49, 59, 32, 125] 29 = .fine [⟨1, [114], 0, 30⟩, ⟨3, [43], 0, 32⟩, ⟨2, [49], 1, 34⟩, ⟨3, [59], 0, 35⟩, ⟨3, [125], 0, 37⟩] := (scanL_blank _ _ (by decide)).trans sk5_30
theorem sk5_28 : scanL [61, 32, 114, 32, 43, 32, 49, 59, 32, 125] 28 = .fine [⟨3, [61], 0, 28⟩, ⟨1, [114], 0, 30⟩, ⟨3, [43], 0, 32⟩, ⟨2, [49], 1, 34⟩, ⟨3, [59], 0, 35⟩, ⟨3, [125], 0, 37⟩] := scan_tok_step (k := 3) (t := [61]) (n := 0) (by decide +kernel) rfl rfl rfl sk5_29
theorem sk5_27 : scanL [32, 61, 32, 114, 32, 43, 32, 49, 59, 32, 125] 27 = .fine [⟨3, [61], 0, 28⟩, ⟨1, [114], 0, 30⟩, ⟨3, [43], 0, 32⟩, ⟨2, [49], 1, 34⟩, ⟨3, [59], 0, 35⟩, ⟨3, [125], 0, 37⟩] := (scanL_blank _ _ (by decide)).trans sk5_28
theorem sk5_26 : scanL [97, 32, 61, 32, 114, 32, 43, 32, 49, 59, 32, 125] 26 = .fine [⟨1, [97], 0, 26⟩, ⟨3, [61], 0, 28⟩, ⟨1, [114], 0, 30⟩, ⟨3, [43], 0, 32⟩, ⟨2, [49], 1, 34⟩, ⟨3, [59], 0, 35⟩, ⟨3, [125], 0, 37⟩] := scan_tok_step (k := 1) (t := [97]) (n := 0) (by decide +kernel) rfl rfl rfl sk5_27
theorem sk5_25 : scanL [32, 97, 32, 61, 32, 114, 32, 43, 32, 49, 59, 32, 125] 25 = .fine [⟨1, [97], 0, 26⟩, ⟨3, [61], 0, 28⟩, ⟨1, [114], 0, 30⟩, ⟨3, [43], 0, 32⟩, ⟨2, [49], 1, 34⟩, ⟨3, [59], 0, 35⟩, ⟨3, [125], 0, 37⟩] := (scanL_blank _ _ (by decide)).trans sk5_26
theorem sk5_20 : scanL [115, 116, 111, 114, 101, 32, 97, 32, 61, 32, 114, 32, 43, 32, 49, 59, 32, 125] 20 = .fine [⟨1, [115, 116, 111, 114, 101], 0, 20⟩, ⟨1, [97], 0, 26⟩, ⟨3, [61], 0, 28⟩, ⟨1, [114], 0, 30⟩, ⟨3, [43], 0, 32⟩, ⟨2, [49], 1, 34⟩, ⟨3, [59], 0, 35⟩, ⟨3, [125], 0, 37⟩] := scan_tok_step (k := 1) (t := [115, 116, 111, 114, 101]) (n := 0) (by decide +kernel) rfl rfl rfl sk5_25
theorem sk5_19 : scanL [32, 115, 116, 111, 114, 101, 32, 97, 32, 61, 32, 114, 32, 43, 32, 49, 59, 32, 125] 19 = .fine [⟨1, [115, 116, 111, 114, 101], 0, 20⟩, ⟨1, [97], 0, 26⟩, ⟨3, [61], 0, 28⟩, ⟨1, [114], 0, 30⟩, ⟨3, [43], 0, 32⟩, ⟨2, [49], 1, 34⟩, ⟨3, [59], 0, 35⟩, ⟨3, [125], 0, 37⟩] := (scanL_blank _ _ (by decide)).trans sk5_20
theorem sk5_18 : scanL [125, 32, 115, 116, 111, 114, 101, 32, 97, 32, 61, 32, 114, 32, 43, 32, 49, 59, 32, 125] 18 = .fine [⟨3, [125], 0, 18⟩, ⟨1, [115, 116, 111, 114, 101], 0, 20⟩, ⟨1, [97], 0, 26⟩, ⟨3, [61], 0, 28⟩, ⟨1, [114], 0, 30⟩, ⟨3, [43], 0, 32⟩, ⟨2, [49], 1, 34⟩, ⟨3, [59], 0, 35⟩, ⟨3, [125], 0, 37⟩] := scan_tok_step (k := 3) (t := [125]) (n := 0) (by decide +kernel) rfl rfl rfl sk5_19
theorem sk5_17 : scanL [32, 125, 32, 115, 116, 111, 114, 101, 32, 97, 32, 61, 32, 114, 32, 43, 32, 49, 59, 32, 125] 17 = .fine [⟨3, [125], 0, 18⟩, ⟨1, [115, 116, 111, 114, 101], 0, 20⟩, ⟨1, [97], 0, 26⟩, ⟨3, [61], 0, 28⟩, ⟨1, [114], 0, 30⟩, ⟨3, [43], 0, 32⟩, ⟨2, [49], 1, 34⟩, ⟨3, [59], 0, 35⟩, ⟨3, [125], 0, 37⟩] := (scanL_blank _ _ (by decide)).trans sk5_18
theorem sk5_16 : scanL [123, 32, 125, 32, 115, 116, 111, 114, 101, 32, 97, 32, 61, 32, 114, 32, 43, 32, 49, 59, 32, 125] 16 = .fine [⟨3, [123], 0, 16⟩, ⟨3, [125], 0, 18⟩, ⟨1, [115, 116, 111, 114, 101], 0, 20⟩, ⟨1, [97], 0, 26⟩, ⟨3, [61], 0, 28⟩, ⟨1, [114], 0, 30⟩, ⟨3, [43], 0, 32⟩, ⟨2, [49], 1, 34⟩, ⟨3, [59], 0, 35⟩, ⟨3, [125], 0, 37⟩] := scan_tok_step (k := 3) (t := [123]) (n := 0) (by decide +kernel) rfl rfl rfl sk5_17
theorem sk5_15 : scanL [32, 123, 32, 125, 32, 115, 116, 111, 114, 101, 32, 97, 32, 61, 32, 114, 32, 43, 32, 49, 59, 32, 125] 15 = .fine [⟨3, [123], 0, 16⟩, ⟨3, [125], 0, 18⟩, ⟨1, [115, 116, 111, 114, 101], 0, 20⟩, ⟨1, [97], 0, 26⟩, ⟨3, [61], 0, 28⟩, ⟨1, [114], 0, 30⟩, ⟨3, [43], 0, 32⟩, ⟨2, [49], 1, 34⟩, ⟨3, [59], 0, 35⟩, ⟨3, [125], 0, 37⟩] := (scanL_blank _ _ (by decide)).trans sk5_16
theorem sk5_11 : scanL [101, 108, 115, 101, 32, 123, 32, 125, 32, 115, 116, 111, 114, 101, 32, 97, 32, 61, 32, 114, 32, 43, 32, 49, 59, 32, 125] 11 = .fine [⟨1, [101, 108, 115, 101], 0, 11⟩, ⟨3, [123], 0, 16⟩, ⟨3, [125], 0, 18⟩, ⟨1, [115, 116, 111, 114, 101], 0, 20⟩, ⟨1, [97], 0, 26⟩, ⟨3, [61], 0, 28⟩, ⟨1, [114], 0, 30⟩, ⟨3, [43], 0, 32⟩, ⟨2, [49], 1, 34⟩, ⟨3, [59], 0, 35⟩, ⟨3, [125], 0, 37⟩] := scan_tok_step (k := 1) (t := [101, 108, 115, 101]) (n := 0) (by decide +kernel) rfl rfl rfl sk5_15
theorem sk5_10 : scanL [32, 101, 108, 115, 101, 32, 123, 32, 125, 32, 115, 116, 111, 114, 101, 32, 97, 32, 61, 32, 114, 32, 43, 32, 49, 59, 32, 125] 10 = .fine [⟨1, [101, 108, 115, 101], 0, 11⟩, ⟨3, [123], 0, 16⟩, ⟨3, [125], 0, 18⟩, ⟨1, [115, 116, 111, 114, 101], 0, 20⟩, ⟨1, [97], 0, 26⟩, ⟨3, [61], 0, 28⟩, ⟨1, [114], 0, 30⟩, ⟨3, [43], 0, 32⟩, ⟨2, [49], 1, 34⟩, ⟨3, [59], 0, 35⟩, ⟨3, [125], 0, 37⟩] := (scanL_blank _ _ (by decide)).trans sk5_11
theorem sk5_9 : scanL [125, 32, 101, 108, 115, 101, 32, 123, 32, 125, 32, 115, 116, 111, 114, 101, 32, 97, 32, 61, 32, 114, 32, 43, 32, 49, 59, 32, 125] 9 = .fine [⟨3, [125], 0, 9⟩, ⟨1, [101, 108, 115, 101], 0, 11⟩, ⟨3, [123], 0, 16⟩, ⟨3, [125], 0, 18⟩, ⟨1, [115, 116, 111, 114, 101], 0, 20⟩, ⟨1, [97], 0, 26⟩, ⟨3, [61], 0, 28⟩, ⟨1, [114], 0, 30⟩, ⟨3, [43], 0, 32⟩, ⟨2, [49], 1, 34⟩, ⟨3, [59], 0, 35⟩, ⟨3, [125], 0, 37⟩] := scan_tok_step (k := 3) (t := [125]) (n := 0) (by decide +kernel) rfl rfl rfl sk5_10
theorem sk5_8 : scanL [32, 125, 32, 101, 108, 115, 101, 32, 123, 32, 125, 32, 115, 116, 111, 114, 101, 32, 97, 32, 61, 32, 114, 32, 43, 32, 49, 59, 32, 125] 8 = .fine [⟨3, [125], 0, 9⟩, ⟨1, [101, 108, 115, 101], 0, 11⟩, ⟨3, [123], 0, 16⟩, ⟨3, [125], 0, 18⟩, ⟨1, [115, 116, 111, 114, 101], 0, 20⟩, ⟨1, [97], 0, 26⟩, ⟨3, [61], 0, 28⟩, ⟨1, [114], 0, 30⟩, ⟨3, [43], 0, 32⟩, ⟨2, [49], 1, 34⟩, ⟨3, [59], 0, 35⟩, ⟨3, [125], 0, 37⟩] := (scanL_blank _ _ (by decide)).trans sk5_9
theorem sk5_7 : scanL [123, 32, 125, 32, 101, 108, 115, 101, 32, 123, 32, 125, 32, 115, 116, 111, 114, 101, 32, 97, 32, 61, 32, 114, 32, 43, 32, 49, 59, 32, 125] 7 = .fine [⟨3, [123], 0, 7⟩, ⟨3, [125], 0, 9⟩, ⟨1, [101, 108, 115, 101], 0, 11⟩, ⟨3, [123], 0, 16⟩, ⟨3, [125], 0, 18⟩, ⟨1, [115, 116, 111, 114, 101], 0, 20⟩, ⟨1, [97], 0, 26⟩, ⟨3, [61], 0, 28⟩, ⟨1, [114], 0, 30⟩, ⟨3, [43], 0, 32⟩, ⟨2, [49], 1, 34⟩, ⟨3, [59], 0, 35⟩, ⟨3, [125], 0, 37⟩] := scan_tok_step (k := 3) (t := [123]) (n := 0) (by decide +kernel) rfl rfl rfl sk5_8
theorem sk5_6 : scanL [32, 123, 32, 125, 32, 101, 108, 115, 101, 32, 123, 32, 125, 32, 115, 116, 111, 114, 101, 32, 97, 32, 61, 32, 114, 32, 43, 32, 49, 59, 32, 125] 6 = .fine [⟨3, [123], 0, 7⟩, ⟨3, [125], 0, 9⟩, ⟨1, [101, 108, 115, 101], 0, 11⟩, ⟨3, [123], 0, 16⟩, ⟨3, [125], 0, 18⟩, ⟨1, [115, 116, 111, 114, 101], 0, 20⟩, ⟨1, [97], 0, 26⟩, ⟨3, [61], 0, 28⟩, ⟨1, [114], 0, 30⟩, ⟨3, [43], 0, 32⟩, ⟨2, [49], 1, 34⟩, ⟨3, [59], 0, 35⟩, ⟨3, [125], 0, 37⟩] := (scanL_blank _ _ (by decide)).trans sk5_7
theorem sk5_5 : scanL [114, 32, 123, 32, 125, 32, 101, 108, 115, 101, 32, 123, 32, 125, 32, 115, 116, 111, 114, 101, 32, 97, 32, 61, 32, 114, 32, 43, 32, 49, 59, 32, 125] 5 = .fine [⟨1, [114], 0, 5⟩, ⟨3, [123], 0, 7⟩, ⟨3, [125], 0, 9⟩, ⟨1, [101, 108, 115, 101], 0, 11⟩, ⟨3, [123], 0, 16⟩, ⟨3, [125], 0, 18⟩, ⟨1, [115, 116, 111, 114, 101], 0, 20⟩, ⟨1, [97], 0, 26⟩, ⟨3, [61], 0, 28⟩, ⟨1, [114], 0, 30⟩, ⟨3, [43], 0, 32⟩, ⟨2, [49], 1, 34⟩, ⟨3, [59], 0, 35⟩, ⟨3, [125], 0, 37⟩] := scan_tok_step (k := 1) (t := [114]) (n := 0) (by decide +kernel) rfl rfl rfl sk5_6
theorem sk5_4 : scanL [32, 114, 32, 123, 32, 125, 32, 101, 108, 115, 101, 32, 123, 32, 125, 32, 115, 116, 111, 114, 101, 32, 97, 32, 61, 32, 114, 32, 43, 32, 49, 59, 32, 125] 4 = .fine [⟨1, [114], 0, 5⟩, ⟨3, [123], 0, 7⟩, ⟨3, [125], 0, 9⟩, ⟨1, [101, 108, 115, 101], 0, 11⟩, ⟨3, [123], 0, 16⟩, ⟨3, [125], 0, 18⟩, ⟨1, [115, 116, 111, 114, 101], 0, 20⟩, ⟨1, [97], 0, 26⟩, ⟨3, [61], 0, 28⟩, ⟨1, [114], 0, 30⟩, ⟨3, [43], 0, 32⟩, ⟨2, [49], 1, 34⟩, ⟨3, [59], 0, 35⟩, ⟨3, [125], 0, 37⟩] := (scanL_blank _ _ (by decide)).trans sk5_5
theorem sk5_2 : scanL [105, 102, 32, 114, 32, 123, 32, 125, 32, 101, 108, 115, 101, 32, 123, 32, 125, 32, 115, 116, 111, 114, 101, 32, 97, 32, 61, 32, 114, 32, 43, 32, 49, 59, 32, 125] 2 = .fine [⟨1, [105, 102], 0, 2⟩, ⟨1, [114], 0, 5⟩, ⟨3, [123], 0, 7⟩, ⟨3, [125], 0, 9⟩, ⟨1, [101, 108, 115, 101], 0, 11⟩, ⟨3, [123], 0, 16⟩, ⟨3, [125], 0, 18⟩, ⟨1, [115, 116, 111, 114, 101], 0, 20⟩, ⟨1, [97], 0, 26⟩, ⟨3, [61], 0, 28⟩, ⟨1, [114], 0, 30⟩, ⟨3, [43], 0, 32⟩, ⟨2, [49], 1, 34⟩, ⟨3, [59], 0, 35⟩, ⟨3, [125], 0, 37⟩] := scan_tok_step (k := 1) (t := [105, 102]) (n := 0) (by decide +kernel) rfl rfl rfl sk5_4
theorem sk5_1 : scanL [32, 105, 102, 32, 114, 32, 123, 32, 125, 32, 101, 108, 115, 101, 32, 123, 32, 125, 32, 115, 116, 111, 114, 101, 32, 97, 32, 61, 32, 114, 32, 43, 32, 49, 59, 32, 125] 1 = .fine [⟨1, [105, 102], 0, 2⟩, ⟨1, [114], 0, 5⟩, ⟨3, [123], 0, 7⟩, ⟨3, [125], 0, 9⟩, ⟨1, [101, 108, 115, 101], 0, 11⟩, ⟨3, [123], 0, 16⟩, ⟨3, [125], 0, 18⟩, ⟨1, [115, 116, 111, 114, 101], 0, 20⟩, ⟨1, [97], 0, 26⟩, ⟨3, [61], 0, 28⟩, ⟨1, [114], 0, 30⟩, ⟨3, [43], 0, 32⟩, ⟨2, [49], 1, 34⟩, ⟨3, [59], 0, 35⟩, ⟨3, [125], 0, 37⟩] := (scanL_blank _ _ (by decide)).trans sk5_2
theorem sk5_0 : scanL [123, 32, 105, 102, 32, 114, 32, 123, 32, 125, 32, 101, 108, 115, 101, 32, 123, 32, 125, 32, 115, 116, 111, 114, 101, 32, 97, 32, 61, 32, 114, 32, 43, 32, 49, 59, 32, 125] 0 = .fine [⟨3, [123], 0, 0⟩, ⟨1, [105, 102], 0, 2⟩, ⟨1, [114], 0, 5⟩, ⟨3, [123], 0, 7⟩, ⟨3, [125], 0, 9⟩, ⟨1, [101, 108, 115, 101], 0, 11⟩, ⟨3, [123], 0, 16⟩, ⟨3, [125], 0, 18⟩, ⟨1, [115, 116, 111, 114, 101], 0, 20⟩, ⟨1, [97], 0, 26⟩, ⟨3, [61], 0, 28⟩, ⟨1, [114], 0, 30⟩, ⟨3, [43], 0, 32⟩, ⟨2, [49], 1, 34⟩, ⟨3, [59], 0, 35⟩, ⟨3, [125], 0, 37⟩] := scan_tok_step (k := 3) (t := [123]) (n := 0) (by decide +kernel) rfl rfl rfl sk5_1
def tk5 : List Tok := [⟨3, [123], 0, 0⟩, ⟨1, [105, 102], 0, 2⟩, ⟨1, [114], 0, 5⟩, ⟨3, [123], 0, 7⟩, ⟨3, [125], 0, 9⟩, ⟨1, [101, 108, 115, 101], 0, 11⟩, ⟨3, [123], 0, 16⟩, ⟨3, [125], 0, 18⟩, ⟨1, [115, 116, 111, 114, 101], 0, 20⟩, ⟨1, [97], 0, 26⟩, ⟨3, [61], 0, 28⟩, ⟨1, [114], 0, 30⟩, ⟨3, [43], 0, 32⟩, ⟨2, [49], 1, 34⟩, ⟨3, [59], 0, 35⟩, ⟨3, [125], 0, 37⟩]
theorem ft5 (w : World) : Calls Tryz.prog 10 #[.string ⟨#[123, 32, 105, 102, 32, 114, 32, 123, 32, 125, 32, 101, 108, 115, 101, 32, 123, 32, 125, 32, 115, 116, 111, 114, 101, 32, 97, 32, 61, 32, 114, 32, 43, 32, 49, 59, 32, 125]⟩] w (GivesT tk5 w) := by
  have h := tokens_any ⟨#[123, 32, 105, 102, 32, 114, 32, 123, 32, 125, 32, 101, 108, 115, 101, 32, 123, 32, 125, 32, 115, 116, 111, 114, 101, 32, 97, 32, 61, 32, 114, 32, 43, 32, 49, 59, 32, 125]⟩ w (by decide)
  rwa [show (scanL (ByteArray.mk #[123, 32, 105, 102, 32, 114, 32, 123, 32, 125, 32, 101, 108, 115, 101, 32, 123, 32, 125, 32, 115, 116, 111, 114, 101, 32, 97, 32, 61, 32, 114, 32, 43, 32, 49, 59, 32, 125]).data.toList 0).toks = tk5 from congrArg Found.toks sk5_0] at h
theorem fits5 : tk5.length ≤ 10000 ∧ SmallT tk5 := by decide +kernel
def wantL : List Stm := [⟨12, [], [], [], [], 2, 2, 0, 2⟩, ⟨2, [114], [97], [], [], 0, 0, 0, 11⟩, ⟨13, [], [], [], [], 0, 0, 0, 23⟩]
def wantM : List Stm := [⟨11, [], [], [⟨2, 0, [114], 5⟩], [], 0, 0, 0, 2⟩, ⟨3, [], [97], [⟨5, 0, [], 32⟩, ⟨2, 0, [114], 30⟩, ⟨1, 1, [], 34⟩], [], 0, 0, 0, 20⟩]
theorem fx1 : stmtV tk1 0 = ⟨wantL, 13, 0, 0⟩ := by decide +kernel
theorem fx2 : stmtV tk2 0 = ⟨[], 0, 5, 2⟩ := by decide +kernel
theorem fx3 : stmtV tk3 0 = ⟨[], 0, 11, 7⟩ := by decide +kernel
theorem fx4 : stmtV tk4 0 = ⟨[], 0, 6, 14⟩ := by decide +kernel
theorem fx5 : stmtV tk5 0 = ⟨wantM, 16, 0, 0⟩ := by decide +kernel
theorem fp (L : List Tok) (i : Int) (q : ParsedS) (h : stmtV L i = q) (hf : L.length ≤ 10000 ∧ SmallT L) (v : Value) (w : World) (hr : ReadT w v L) (ht : Tabs w) : Calls Tryz.prog 12 #[v, .int .i64 i] w (GivesSt q w) := by
  have := sparse_any v L i w hr ht hf.1 hf.2
  rwa [h] at this
theorem smallL : (∀ x ∈ wantL, SmallS x) ∧ (∀ x ∈ wantM, SmallS x) ∧ (∀ x ∈ wantL.drop 1, SmallS x) := by decide +kernel
theorem fs1 (v : Value) (w : World) (h : ReadSt w v wantM) (ht : Tabs w) : Calls Tryz.prog 18 #[v] w (GivesSB [105, 102, 32, 114, 32, 123, 10, 125, 10, 115, 116, 111, 114, 101, 32, 97, 32, 61, 32, 114, 32, 43, 32, 49, 59, 10] w) := by
  have := sshow_any v wantM w h smallL.2.1 ht
  rwa [show showS wantM = [105, 102, 32, 114, 32, 123, 10, 125, 10, 115, 116, 111, 114, 101, 32, 97, 32, 61, 32, 114, 32, 43, 32, 49, 59, 10] from by decide +kernel] at this
theorem fr1 (v : Value) (w : World) (h : ReadSt w v wantL) (ht : Tabs w) : Calls Tryz.prog 16 #[v] w (TellsB true w) := by
  have := sright_any v wantL w h smallL.1 ht
  rwa [show rightS wantL = true from by decide +kernel] at this
theorem fr2 (v : Value) (w : World) (h : ReadSt w v (wantL.drop 1)) (ht : Tabs w) : Calls Tryz.prog 16 #[v] w (TellsB false w) := by
  have := sright_any v (wantL.drop 1) w h smallL.2.2 ht
  rwa [show rightS (wantL.drop 1) = false from by decide +kernel] at this
theorem fd1 (v : Value) (w : World) (h : ReadSt w v wantL) (ht : Tabs w) : Calls Tryz.prog 20 #[v] w (GivesN 1 w) := by
  have := sdepth_any v wantL w h smallL.1 ht
  rwa [show depthS wantL = 1 from by decide +kernel] at this
theorem fh1 (w : World) (ht : Tabs w) : Calls Tryz.prog 22 #[.int .i64 4] w (GivesSB [114, 110, 101, 102] w) := by
  have := shas_any 4 w ht
  rwa [show hasL 4 = [114, 110, 101, 102] from by decide +kernel] at this
theorem fm1 (v1 v2 : Value) (w : World) (h : ReadSt w v1 wantL) (h2 : ReadSt w v2 wantL) : Calls Tryz.prog 24 #[v1, v2] w (TellsB true w) := by
  have := ssame_any v1 v2 _ _ w h h2 (by decide) smallL.1
  rwa [show sameSt false wantL wantL = true from by decide +kernel] at this
theorem fm2 (v1 v2 : Value) (w : World) (h : ReadSt w v1 wantL) (h2 : ReadSt w v2 wantM) : Calls Tryz.prog 24 #[v1, v2] w (TellsB false w) := by
  have := ssame_any v1 v2 _ _ w h h2 (by decide) smallL.1
  rwa [show sameSt false wantL wantM = false from by decide +kernel] at this
theorem read3 {w : World} {g cap : Nat} (h : ReadSt w (.slice (some ⟨g, 0, none⟩) 3 cap) wantL) : ReadSt w (.slice (some ⟨g, 9, none⟩) 2 (cap - 1)) (wantL.drop 1) := by
  have hq := ReadSt.part (k := 1) (j := 3) h (by omega) (by omega)
  exact hq

end Go.Proofs.YtpeohfgadnfnpaaGreatDoor
