/-
  DERIVED. Layer 3: the walk of the law ExprParses: for every text and every number it is true.
-/
import Derived.Test.YtcmbcbdijmknnaaDoorRefParse
import Derived.Test.YtcmbcbdijmknnaaDoorBack
namespace Go.Proofs.YtcmbcbdijmknnaaDoor
open Go.RowKit

theorem same_self (L : List Nod) : sameN true L L = true := sameG_refl (fun a => by simp [nodEq]) L
theorem exprV_len (L : List Tok) (i : Int) : (exprV L i).nodes.length ≤ 40 := by
  unfold exprV
  split
  · simp
  · split
    · simp
    · split
      · simp
      · split
        · simp
        · rename_i h; rw [flat_len]; omega
/-- A row that the call made itself, and that may be written. -/
def OwnB (w : World) (g n : Nat) : Prop := ∃ cur : Array Value, w.heap[g]? = some (.cells cur 30 (0, 0)) ∧ n * 4 ≤ cur.size
theorem OwnB.set {w : World} {g n : Nat} (h : OwnB w g n) (j : Nat) (v : Value) : OwnB (w.setCell ⟨g, j, none⟩ v) g n := by
  obtain ⟨cur, hh, hc⟩ := h
  refine ⟨cur.setIfInBounds j v, ?_, by simpa using hc⟩
  simp [World.setCell, Array.getElem?_modify, hh]
theorem OwnB.cell {w : World} {g n j : Nat} (h : OwnB w g n) (hj : j < n) : (∃ u, w.cell? ⟨g, j * 4 + 1, none⟩ = some u) ∧ w.frozen? ⟨g, j * 4 + 1, none⟩ = false := by
  obtain ⟨cur, hh, hc⟩ := h
  refine ⟨⟨cur[j * 4 + 1]'(by omega), ?_⟩, by simp [World.frozen?, hh]⟩
  rw [cell_of_row w g _ cur 30 (0, 0) hh]
  exact Array.getElem?_eq_getElem (by omega)
theorem own_B {w : World} {B g n c : Nat} {L : List Nod} (h : OwnN w B (.slice (some ⟨g, 0, none⟩) n c) L) : OwnB w g n := by
  rcases h.2 with ⟨h1, _⟩ | ⟨g', cap, cur, hv, _, hh, hn, _, hs, _⟩
  · cases h1
  · simp only [Value.slice.injEq, Option.some.injEq, Addr.mk.injEq] at hv
    obtain ⟨⟨rfl, _⟩, rfl, rfl⟩ := hv
    exact ⟨cur, hh, by omega⟩

set_option maxRecDepth 100000 in
set_option maxHeartbeats 8000000 in
theorem parses_any (s : ByteArray) (i : Int) (w : World) (ht : Tabs w) : Calls Tryd.prog 3 #[.string s, .int .i64 i] w (IsTrue w) := by
  have HU := Lib.hid (cut_sizeB s 600)
  have HT := Lib.hid ht
  clear ht
  go_enter Tryd.func3, Tryd.ntmps3
  go_wp2_with fail
  change Calls _ _ #[.string (s.extract 0 (min (s.size : Int) (600 : Nat)).toNat)] _ _
  generalize s.extract 0 (min (s.size : Int) (600 : Nat)).toNat = u at *
  generalize min (s.size : Int) 600 = mm
  have hu := HU.out
  refine (tokens_any u _ (by omega)).mono ?_
  have hsm : SmallT (scanL u.data.toList 0).toks := scan_small (by rw [len_data]; omega)
  have hlen := (scan_facts u.data.toList).1
  rw [len_data] at hlen
  generalize (scanL u.data.toList 0).toks = T at *
  rintro e w1 ⟨v1, rfl, ho, hb⟩
  obtain ⟨A1, c1, rfl, _⟩ := ho.read
  have HO := Lib.hid ho.read
  have HB := Lib.hid hb
  have HSM := Lib.hid hsm
  have hT : T.length ≤ 10000 := by omega
  clear ho hb hsm hlen
  have hql := exprV_len T i
  have HSS := Lib.hid (same_self (exprV T i).nodes)
  obtain ⟨q, hq⟩ : ∃ q, exprV T i = q := ⟨_, rfl⟩
  have HQ := Lib.hid hq
  rw [hq] at hql HSS
  clear hq
  go_wp2_with fail
  refine (rparse_any _ T i _ HO.out hT HSM.out).mono ?_
  rw [HQ.out]
  rintro e w2 ⟨v2, rfl, ho, hb⟩
  have hr2 := ho.read
  obtain ⟨A2, c2, rfl, _⟩ := ho.read
  have HO2 := Lib.hid hr2
  obtain ⟨nn, hnn⟩ : ∃ nn, q.nodes.length = nn := ⟨_, rfl⟩
  rw [hnn] at hql
  rw [hnn]
  have HNN := Lib.hid hnn
  clear hnn
  replace HO := Lib.hid (HO.out.on hb)
  replace HB := Lib.hid (below_then HB.out hb)
  clear ho hb hr2
  go_wp2_with fail
  go_loopw [10] (fun k wr => ∃ j : Nat, j ≤ 2 ∧ k = .int .i64 j ∧ Below w2.heap.size w2 wr) (fun k _ => 2 - (intOf k).toNat)
  case atStart => exact ⟨0, Nat.zero_le _, rfl, Below.refl _ _⟩
  case round =>
    obtain ⟨j, hj, rfl, hbr⟩ := hrel
    have HBR := Lib.hid hbr
    clear hbr
    obtain ⟨wo, hwo⟩ : ∃ y : World, y = wr := ⟨_, rfl⟩
    subst hwo
    by_cases hlt : j < 2
    · have hj2 : (j : Int) < 2 := by omega
      go_wp2_with fail
      refine (parse_any _ T i _ (HO.out.on HBR.out) ((HT.out.on HB.out).on HBR.out) hT HSM.out).mono ?_
      rw [HQ.out]
      rintro e w3 ⟨v3, rfl, ho, hb⟩
      have hr3 := ho.read
      have ho3 := ho
      obtain ⟨A3, c3, rfl, _⟩ := ho.read
      have HO3 := Lib.hid ho3
      have HB3 := Lib.hid hb
      clear ho hb hr3 ho3
      have hne1 : (q.to != q.to) = false := by simp
      have hne2 : (q.err != q.err) = false := by simp
      have hne3 : (q.pl != q.pl) = false := by simp
      rw [HNN.out]
      go_wp2_with fail
      refine (rsame_any true _ _ q.nodes q.nodes _ (by rw [← HNN.out]; exact HO3.out.read) (by rw [← HNN.out]; exact (HO2.out.on HBR.out).on HB3.out) (by rw [HNN.out]; omega)).mono ?_
      rw [HSS.out]
      rintro e w4 ⟨rfl, hb⟩
      have ho4 := HO3.out.on hb
      have HB4 := Lib.hid (below_then HB3.out hb)
      clear hb
      rw [HNN.out] at ho4
      have hform : (A3 = none ∧ nn ≤ 0) ∨ ∃ g, A3 = some ⟨g, 0, none⟩ ∧ OwnB w4 g nn ∧ wo.heap.size ≤ g := by
        rcases ho4.2 with ⟨h1, _⟩ | ⟨g', cap, cur, hv, hB, _⟩
        · simp only [Value.slice.injEq] at h1
          exact .inl ⟨h1.1, by omega⟩
        · simp only [Value.slice.injEq] at hv
          obtain ⟨rfl, _, rfl⟩ := hv
          exact .inr ⟨g', rfl, own_B ho4, hB⟩
      clear ho4
      rcases hform with ⟨rfl, hn0⟩ | ⟨g, rfl, hOB, hgl⟩
      · clear HNN hql HSS
        have hki : ¬ (0 : Int) < (nn : Int) := by omega
        go_wp2_with fail
        go_loopw [15] (fun x wq => x = .int .i64 0 ∧ wq = w4) (fun _ _ => 0)
        case atStart => exact ⟨rfl, rfl⟩
        case round =>
          obtain ⟨rfl, hw⟩ := hrel
          subst hw
          go_wp2_with fail
          go_roundw
          case rel => exact ⟨j + 1, by omega, by go_num, below_then HBR.out HB4.out⟩
          case measure => simp [intOf]; omega
      · have HOB := Lib.hid hOB
        clear hOB HNN HSS
        go_wp2_with fail
        go_loopw [15] (fun x wq => ∃ k : Nat, k ≤ nn ∧ x = .int .i64 k ∧ Below wo.heap.size wo wq ∧ OwnB wq g nn) (fun x _ => nn - (intOf x).toNat)
        case atStart => exact ⟨0, Nat.zero_le _, rfl, HB4.out, HOB.out⟩
        case round =>
          obtain ⟨k, hk, rfl, hbq, hoq⟩ := hrel
          have HBQ := Lib.hid hbq
          have HOQ := Lib.hid hoq
          by_cases hkn : k < nn
          · obtain ⟨⟨uu, hu⟩, hf⟩ := hoq.cell hkn
            clear hbq hoq
            have hki : (k : Int) < (nn : Int) := by omega
            go_wp2_with fail
            go_roundw
            case rel => exact ⟨k + 1, by omega, by go_num, HBQ.out.setCell (by show wo.heap.size ≤ g; exact hgl) _, HOQ.out.set _ _⟩
            case measure => simp [intOf]; omega
          · clear hbq hoq
            have hki : ¬ (k : Int) < (nn : Int) := by omega
            go_wp2_with fail
            go_roundw
            case rel => exact ⟨j + 1, by omega, by go_num, below_then HBR.out HBQ.out⟩
            case measure => simp [intOf]; omega
    · have hj2 : ¬ (j : Int) < 2 := by omega
      replace HB := Lib.hid (below_then HB.out HBR.out)
      go_wp2_with fail
      refine (fixed_any _ (HT.out.on HB.out)).mono ?_
      rintro e w8 ⟨rfl, hb⟩
      go_wp2_with fail
      go_ret
      exact ⟨rfl, below_then HB.out hb⟩
end Go.Proofs.YtcmbcbdijmknnaaDoor
