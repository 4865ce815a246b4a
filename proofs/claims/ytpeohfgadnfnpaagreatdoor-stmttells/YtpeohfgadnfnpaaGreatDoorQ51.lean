/-
  DERIVED. Layer 4: the contract of the document's deep: how deep statements are.
-/
import Derived.Test.YtpeohfgadnfnpaaGreatDoorQ24
import Derived.Test.YtpeohfgadnfnpaaGreatDoorQ20
import Derived.Deep.RegionHeld3
import Derived.Deep.DrawnRows
namespace Go.Proofs.YtpeohfgadnfnpaaGreatDoor
open Go.RowKit

theorem deepS_le {l d : Nat} {L : List Stm} (h : deepS l L = some d) : d ≤ L.length := by
  unfold deepS at h
  cases ht : treeS L with
  | none => rw [ht] at h; cases h
  | some b =>
    rw [ht] at h
    simp only at h
    split at h
    · obtain ⟨_, rfl⟩ := treeS_some ht
      simp at h; subst h
      rw [flat_count]; exact deep_le_count b
    · cases h
theorem dropS_at {L : List Stm} {i : Nat} {a : Stm} (h : L[i]? = some a) : L.drop i = a :: L.drop (i + 1) := by
  obtain ⟨hi, e⟩ := List.getElem?_eq_some_iff.1 h
  rw [List.drop_eq_getElem_cons hi, e]
theorem keep7 {W w1 w2 : World} {g : Nat} {v : Value} (hg : g < W.heap.size) (h : w1.cell? ⟨g, 7, none⟩ = some v ∧ Below W.heap.size W w1) (hb : Below w1.heap.size w1 w2) : w2.cell? ⟨g, 7, none⟩ = some v ∧ Below W.heap.size W w2 :=
  ⟨(hb.cell (p := ⟨g, 7, none⟩) (Nat.lt_of_lt_of_le hg h.2.size)).trans h.1, below_then h.2 hb⟩
theorem deep_cases (l : Nat) (L : List Stm) : (deepS l L = none ∧ deepI l L = -1) ∨ (∃ a : Nat, deepS l L = some a ∧ deepI l L = a ∧ a ≤ L.length) := by
  cases h : deepS l L with
  | none => left; exact ⟨rfl, by unfold deepI; rw [h]⟩
  | some a => right; exact ⟨a, rfl, by unfold deepI; rw [h], deepS_le h⟩
theorem comb_max {k : Int} (h : blkK k) {a e q : Nat} {z : Option Nat} : z.map (max (max q (max (a + 1) (e + 1)))) = (comb3 k (some a) (some e) z).map (max q) := by
  cases z with
  | none => rfl
  | some c =>
    show some _ = some (max q (max (if blkK k then max (a + 1) (e + 1) else 0) c))
    rw [if_pos h]; congr 1; omega
def DeepSays (n : Nat) : Prop := ∀ (L : List Stm) (v : Value) (l : Nat) (w : World), L.length = n → n ≤ 40 → l + L.length ≤ 1000 → ReadSt w v L → Calls Tryz.prog 34 #[v, .int .i64 l] w (GivesN (deepI l L) w)

theorem deep_at {n m : Nat} (ih : ∀ m, m < n → DeepSays m) {L : List Stm} {v : Value} {l : Nat} {j : Int} {w : World} (hj : j = (l : Int)) (hm : m < n) (hn : L.length = m) (h40 : m ≤ 40) (hl : l + L.length ≤ 1000) (h : ReadSt w v L) : Calls Tryz.prog 34 #[v, .int .i64 j] w (GivesN (deepI l L) w) := by
  subst hj
  exact ih m hm L v l w hn h40 hl h
theorem readSt_zero {w : World} {A : Option Addr} {n c : Nat} {L : List Stm} (hL : L = []) (hn : n = 0) (hc : c ≤ maxLen) : ReadSt w (.slice A n c) L := by
  subst hL; subst hn
  exact ⟨A, c, rfl, Nat.zero_le _, hc, fun i t h => by simp at h⟩
set_option maxRecDepth 100000 in
set_option maxHeartbeats 8000000 in
theorem rdeep_step (n : Nat) (ih : ∀ m, m < n → DeepSays m) : DeepSays n := by
  intro L v l w hn h40 hl h
  subst hn
  have HL := Lib.hid h
  have IH := Lib.hid ih
  clear ih
  obtain ⟨A, c, rfl, hc, hm, hr⟩ := h
  have HR := Lib.hid hr
  clear hr
  obtain ⟨R, hR⟩ : ∃ R, deepI l L = R := ⟨_, rfl⟩
  rw [hR]
  have HV := Lib.hid hR
  clear hR
  go_enter Tryz.func34, Tryz.ntmps34
  go_wp2_with fail
  go_loopw [5, 6] (fun nv iv wr => ∃ q k : Nat, q ≤ 41 ∧ k ≤ L.length ∧ nv = .int .i64 q ∧ iv = .int .i64 k ∧ Below w.heap.size w wr ∧ (deepS l (L.drop k)).map (max q) = deepS l L) (fun _ i _ => L.length - (intOf i).toNat)
  case atStart => exact ⟨0, 0, by omega, Nat.zero_le _, rfl, rfl, Below.refl _ _, by rw [List.drop_zero]; cases deepS l L <;> simp⟩
  case round =>
    obtain ⟨q, k, hq, hk, rfl, rfl, hb, hd⟩ := hrel
    have HB := Lib.hid hb
    have HD := Lib.hid hd
    clear hb hd
    by_cases hlt : k < L.length
    · have hx : L[k]? = some L[k] := List.getElem?_eq_getElem hlt
      generalize L[k] = x at *
      have HX := Lib.hid (dropS_at hx)
      obtain ⟨g, o, AE, nE, cE, AF, nF, cF, rfl, h9⟩ := HR.out k x hx
      have H9 := Lib.hid (h9.on HB.out)
      clear h9 hx
      obtain ⟨lt9, x0, x1, x2, x3, x4, x5, x6, x7, x8, _, _⟩ := H9.out
      go_upto_region 4 with (fail)
      have HBX := Lib.hid (below_then HB.out ((Below.refl wr.heap.size wr).alloc (Nat.le_refl _) (.cells #[.int .i64 x.kind, .string ⟨x.reg.toArray⟩, .string ⟨x.name.toArray⟩, .slice AE nE cE, .slice AF nF cF, .int .i64 x.n, .int .i64 x.body, .int .i64 x.els, .int .i64 x.pl] 31)))
      have N9 := Lib.hid (nine_new wr (.int .i64 x.kind) (.string ⟨x.reg.toArray⟩) (.string ⟨x.name.toArray⟩) (.slice AE nE cE) (.slice AF nF cF) (.int .i64 x.n) (.int .i64 x.body) (.int .i64 x.els) (.int .i64 x.pl) 31)
      generalize wr.alloc (.cells #[.int .i64 x.kind, .string ⟨x.reg.toArray⟩, .string ⟨x.name.toArray⟩, .slice AE nE cE, .slice AF nF cF, .int .i64 x.n, .int .i64 x.body, .int .i64 x.els, .int .i64 x.pl] 31) = X at *
      clear x0 x1 x2 x3 x4 x5 x6 x7 x8 lt9 H9
      go_cut [50] from 12 to 133 (fun c wx => c = .bool (decide (x.body < 0 ∨ x.els < 0 ∨ 40 < x.body ∨ 40 < x.els ∨ (L.length : Int) < k + 1 + x.body + x.els)) ∧ wx = X)
      case first =>
        obtain ⟨z, z0, z1, z2, z3, z4, z5, z6, z7, z8⟩ := N9.out
        by_cases a1 : x.body < 0
        · skip
          go_wp2_with fail
          go_meet
          case rel => exact ⟨congrArg Value.bool (decide_eq_true (p := x.body < 0 ∨ x.els < 0 ∨ 40 < x.body ∨ 40 < x.els ∨ (L.length : Int) < k + 1 + x.body + x.els) (by omega)).symm, rfl⟩
        · skip
          by_cases a2 : x.els < 0
          · skip
            go_wp2_with fail
            go_meet
            case rel => exact ⟨congrArg Value.bool (decide_eq_true (p := x.body < 0 ∨ x.els < 0 ∨ 40 < x.body ∨ 40 < x.els ∨ (L.length : Int) < k + 1 + x.body + x.els) (by omega)).symm, rfl⟩
          · skip
            by_cases a3 : 40 < x.body
            · skip
              go_wp2_with fail
              go_meet
              case rel => exact ⟨congrArg Value.bool (decide_eq_true (p := x.body < 0 ∨ x.els < 0 ∨ 40 < x.body ∨ 40 < x.els ∨ (L.length : Int) < k + 1 + x.body + x.els) (by omega)).symm, rfl⟩
            · skip
              by_cases a4 : 40 < x.els
              · skip
                go_wp2_with fail
                go_meet
                case rel => exact ⟨congrArg Value.bool (decide_eq_true (p := x.body < 0 ∨ x.els < 0 ∨ 40 < x.body ∨ 40 < x.els ∨ (L.length : Int) < k + 1 + x.body + x.els) (by omega)).symm, rfl⟩
              · skip
                by_cases a5 : (L.length : Int) < k + 1 + x.body + x.els
                · skip
                  go_wp2_with fail
                  go_meet
                  case rel => exact ⟨congrArg Value.bool (decide_eq_true (p := x.body < 0 ∨ x.els < 0 ∨ 40 < x.body ∨ 40 < x.els ∨ (L.length : Int) < k + 1 + x.body + x.els) (by omega)).symm, rfl⟩
                · skip
                  go_wp2_with fail
                  go_meet
                  case rel => exact ⟨congrArg Value.bool (decide_eq_false (p := x.body < 0 ∨ x.els < 0 ∨ 40 < x.body ∨ 40 < x.els ∨ (L.length : Int) < k + 1 + x.body + x.els) (by omega)).symm, rfl⟩
      case rest =>
        obtain ⟨rfl, rfl⟩ := hcut
        by_cases hp : x.body < 0 ∨ x.els < 0 ∨ 40 < x.body ∨ 40 < x.els ∨ (L.length : Int) < k + 1 + x.body + x.els
        · have hpd := decide_eq_true hp
          have HN : Hid (R = -1) := Lib.hid (by
            rw [← HV.out]
            have h1 := HD.out
            rw [HX.out, deepS_bad (fun h => by have h2 := h.1; unfold headOK at h2; rw [List.length_drop] at h2; omega)] at h1
            unfold deepI; rw [← h1]; rfl)
          clear hp
          rw [hpd]
          clear hpd
          go_wp2_with fail
          go_ret
          exact ⟨ret_int HN.out.symm, HBX.out⟩
        · have hpd := decide_eq_false hp
          rw [hpd]
          clear hpd
          obtain ⟨p1, p2, p3, p4, p5⟩ : 0 ≤ x.body ∧ 0 ≤ x.els ∧ x.body ≤ 40 ∧ x.els ≤ 40 ∧ (k : Int) + 1 + x.body + x.els ≤ L.length := by omega
          clear hp
          go_upto_region 6 with (fail)
          go_cut [82] from 12 to 133 (fun c wx => c = .bool (decide ((0 < x.body ∧ ¬ x.kind = 11 ∧ ¬ x.kind = 12) ∨ (0 < x.els ∧ ¬ x.kind = 11) ∨ (x.kind = 13 ∧ l = 0))) ∧ wx = wc)
          case first =>
            obtain ⟨z, z0, z1, z2, z3, z4, z5, z6, z7, z8⟩ := N9.out
            by_cases c1 : x.kind = 11
            · have c1n : (x.kind != 11) = false := by simp [c1]
              have c3n : (x.kind == 13) = false := by simp [c1]
              by_cases d1 : 0 < x.body
              · skip
                by_cases d2 : 0 < x.els
                · skip
                  go_wp2_with fail
                  go_meet
                  case rel => exact ⟨congrArg Value.bool (decide_eq_false (p := (0 < x.body ∧ ¬ x.kind = 11 ∧ ¬ x.kind = 12) ∨ (0 < x.els ∧ ¬ x.kind = 11) ∨ (x.kind = 13 ∧ l = 0)) (by omega)).symm, rfl⟩
                · skip
                  go_wp2_with fail
                  go_meet
                  case rel => exact ⟨congrArg Value.bool (decide_eq_false (p := (0 < x.body ∧ ¬ x.kind = 11 ∧ ¬ x.kind = 12) ∨ (0 < x.els ∧ ¬ x.kind = 11) ∨ (x.kind = 13 ∧ l = 0)) (by omega)).symm, rfl⟩
              · skip
                by_cases d2 : 0 < x.els
                · skip
                  go_wp2_with fail
                  go_meet
                  case rel => exact ⟨congrArg Value.bool (decide_eq_false (p := (0 < x.body ∧ ¬ x.kind = 11 ∧ ¬ x.kind = 12) ∨ (0 < x.els ∧ ¬ x.kind = 11) ∨ (x.kind = 13 ∧ l = 0)) (by omega)).symm, rfl⟩
                · skip
                  go_wp2_with fail
                  go_meet
                  case rel => exact ⟨congrArg Value.bool (decide_eq_false (p := (0 < x.body ∧ ¬ x.kind = 11 ∧ ¬ x.kind = 12) ∨ (0 < x.els ∧ ¬ x.kind = 11) ∨ (x.kind = 13 ∧ l = 0)) (by omega)).symm, rfl⟩
            · have c1n : (x.kind != 11) = true := by simp [c1]
              by_cases c2 : x.kind = 12
              · have c2n : (x.kind != 12) = false := by simp [c2]
                have c3n : (x.kind == 13) = false := by simp [c2]
                by_cases d1 : 0 < x.body
                · skip
                  by_cases d2 : 0 < x.els
                  · skip
                    go_wp2_with fail
                    go_meet
                    case rel => exact ⟨congrArg Value.bool (decide_eq_true (p := (0 < x.body ∧ ¬ x.kind = 11 ∧ ¬ x.kind = 12) ∨ (0 < x.els ∧ ¬ x.kind = 11) ∨ (x.kind = 13 ∧ l = 0)) (by omega)).symm, rfl⟩
                  · skip
                    go_wp2_with fail
                    go_meet
                    case rel => exact ⟨congrArg Value.bool (decide_eq_false (p := (0 < x.body ∧ ¬ x.kind = 11 ∧ ¬ x.kind = 12) ∨ (0 < x.els ∧ ¬ x.kind = 11) ∨ (x.kind = 13 ∧ l = 0)) (by omega)).symm, rfl⟩
                · skip
                  by_cases d2 : 0 < x.els
                  · skip
                    go_wp2_with fail
                    go_meet
                    case rel => exact ⟨congrArg Value.bool (decide_eq_true (p := (0 < x.body ∧ ¬ x.kind = 11 ∧ ¬ x.kind = 12) ∨ (0 < x.els ∧ ¬ x.kind = 11) ∨ (x.kind = 13 ∧ l = 0)) (by omega)).symm, rfl⟩
                  · skip
                    go_wp2_with fail
                    go_meet
                    case rel => exact ⟨congrArg Value.bool (decide_eq_false (p := (0 < x.body ∧ ¬ x.kind = 11 ∧ ¬ x.kind = 12) ∨ (0 < x.els ∧ ¬ x.kind = 11) ∨ (x.kind = 13 ∧ l = 0)) (by omega)).symm, rfl⟩
              · have c2n : (x.kind != 12) = true := by simp [c2]
                by_cases d1 : 0 < x.body
                · skip
                  go_wp2_with fail
                  go_meet
                  case rel => exact ⟨congrArg Value.bool (decide_eq_true (p := (0 < x.body ∧ ¬ x.kind = 11 ∧ ¬ x.kind = 12) ∨ (0 < x.els ∧ ¬ x.kind = 11) ∨ (x.kind = 13 ∧ l = 0)) (by omega)).symm, rfl⟩
                · skip
                  by_cases d2 : 0 < x.els
                  · skip
                    go_wp2_with fail
                    go_meet
                    case rel => exact ⟨congrArg Value.bool (decide_eq_true (p := (0 < x.body ∧ ¬ x.kind = 11 ∧ ¬ x.kind = 12) ∨ (0 < x.els ∧ ¬ x.kind = 11) ∨ (x.kind = 13 ∧ l = 0)) (by omega)).symm, rfl⟩
                  · by_cases c3 : x.kind = 13
                    · have c3n : (x.kind == 13) = true := by simp [c3]
                      by_cases c4 : l = 0
                      · have c4n : ((l : Int) == 0) = true := by simp [c4]
                        have C4 := Lib.hid c4
                        clear c4
                        go_wp2_with fail
                        go_meet
                        case rel => exact ⟨congrArg Value.bool (decide_eq_true (p := (0 < x.body ∧ ¬ x.kind = 11 ∧ ¬ x.kind = 12) ∨ (0 < x.els ∧ ¬ x.kind = 11) ∨ (x.kind = 13 ∧ l = 0)) (by have := C4.out; omega)).symm, rfl⟩
                      · have c4n : ((l : Int) == 0) = false := by simp [c4]
                        go_wp2_with fail
                        go_meet
                        case rel => exact ⟨congrArg Value.bool (decide_eq_false (p := (0 < x.body ∧ ¬ x.kind = 11 ∧ ¬ x.kind = 12) ∨ (0 < x.els ∧ ¬ x.kind = 11) ∨ (x.kind = 13 ∧ l = 0)) (by omega)).symm, rfl⟩
                    · have c3n : (x.kind == 13) = false := by simp [c3]
                      go_wp2_with fail
                      go_meet
                      case rel => exact ⟨congrArg Value.bool (decide_eq_false (p := (0 < x.body ∧ ¬ x.kind = 11 ∧ ¬ x.kind = 12) ∨ (0 < x.els ∧ ¬ x.kind = 11) ∨ (x.kind = 13 ∧ l = 0)) (by omega)).symm, rfl⟩
          case rest =>
            obtain ⟨rfl, rfl⟩ := hcut
            by_cases hp : (0 < x.body ∧ ¬ x.kind = 11 ∧ ¬ x.kind = 12) ∨ (0 < x.els ∧ ¬ x.kind = 11) ∨ (x.kind = 13 ∧ l = 0)
            · have hpd := decide_eq_true hp
              have HN : Hid (R = -1) := Lib.hid (by
                rw [← HV.out]
                have h1 := HD.out
                rw [HX.out, deepS_bad (fun h => by have h2 := h.1.2.2.2; have h3 := h.2; unfold blkK at h2; omega)] at h1
                unfold deepI; rw [← h1]; rfl)
              rw [hpd]
              clear hpd hp
              go_wp2_with fail
              go_ret
              exact ⟨ret_int HN.out.symm, HBX.out⟩
            · have hpd := decide_eq_false hp
              rw [hpd]
              clear hpd
              have hok : stepOK x l (L.drop (k + 1)).length := ⟨⟨p1, p2, by rw [List.length_drop]; omega, fun h => by unfold blkK; omega, fun h => by omega⟩, by omega⟩
              obtain ⟨b, hb⟩ : ∃ b : Nat, x.body = b := ⟨x.body.toNat, by omega⟩
              obtain ⟨d, hd⟩ : ∃ d : Nat, x.els = d := ⟨x.els.toNat, by omega⟩
              have HST := Lib.hid (deepS_step hok)
              have eb : bodyL x (L.drop (k + 1)) = (L.take (k + 1 + b)).drop (k + 1) := by
                unfold bodyL; rw [hb, Int.toNat_natCast, List.drop_take, show k + 1 + b - (k + 1) = b from by omega]
              have ee : elseL x (L.drop (k + 1)) = (L.take (k + 1 + b + d)).drop (k + 1 + b) := by
                unfold elseL; rw [hb, hd, Int.toNat_natCast, Int.toNat_natCast, List.drop_drop, List.drop_take, show k + 1 + b + d - (k + 1 + b) = d from by omega]
              have er : restL x (L.drop (k + 1)) = L.drop (k + 1 + b + d) := by
                unfold restL; rw [hb, hd, Int.toNat_natCast, Int.toNat_natCast, List.drop_drop, Nat.add_assoc (k + 1)]
              rw [eb, ee, er] at HST
              have hbl : ((L.take (k + 1 + b)).drop (k + 1)).length = b := by rw [List.length_drop, List.length_take]; omega
              have hel : ((L.take (k + 1 + b + d)).drop (k + 1 + b)).length = d := by rw [List.length_drop, List.length_take]; omega
              have HBL := Lib.hid hbl
              have HEL := Lib.hid hel
              have HRD := Lib.hid (HL.out.on HBX.out)
              have HRB := Lib.hid (HRD.out.part (k := k + 1) (j := k + 1 + b) (by omega) (by omega))
              have HRE := Lib.hid (HRD.out.part (k := k + 1 + b) (j := k + 1 + b + d) (by omega) (by omega))
              clear hok eb ee er hbl hel
              obtain ⟨z, z0, z1, z2, z3, z4, z5, z6, z7, z8⟩ := N9.out
              rw [hb] at z6
              rw [hd] at z7
              have hsum : k + 1 + b + d ≤ L.length := by omega
              have HKD := Lib.hid (show (x.kind = 12 → d = 0) ∧ (¬ blkK x.kind → b = 0 ∧ d = 0) from by unfold blkK; omega)
              clear hb hd p1 p2 p3 p4 p5 hp
              generalize (L.take (k + 1 + b)).drop (k + 1) = LB at *
              generalize (L.take (k + 1 + b + d)).drop (k + 1 + b) = LE at *
              by_cases hblk : blkK x.kind
              · have HIN : Hid (x.kind = 11 ∧ inS x l = l ∨ x.kind = 12 ∧ inS x l = l + 1 ∧ d = 0) := Lib.hid (by
                  have h1 := HKD.out.1
                  unfold blkK at hblk
                  unfold inS
                  rcases hblk with h | h
                  · left; exact ⟨h, by rw [if_neg (by omega)]⟩
                  · right; exact ⟨h, by rw [if_pos h], h1 h⟩)
                rcases HIN.out with ⟨hkk, hin⟩ | ⟨hkk, hin, hd0⟩
                · skip
                  have hbl : b < L.length := by omega
                  have hdl : d < L.length := by omega
                  have hbl2 : b ≤ 40 := by omega
                  have hdl2 : d ≤ 40 := by omega
                  have hi1 : (k : Int) + 1 ≤ (k : Int) + 1 + b := by omega
                  have hi2 : (k : Int) + 1 + b ≤ (c : Int) := by omega
                  have hi3 : (0 : Int) ≤ (k : Int) + 1 := by omega
                  have hi4 : (0 : Int) ≤ (k : Int) + 1 + b := by omega
                  have hi5 : (k : Int) + 1 + b ≤ (k : Int) + 1 + b + d := by omega
                  have hi6 : (k : Int) + 1 + b + d ≤ (c : Int) := by omega
                  have w1 : IntKind.i64.wrap ((k : Int) + 1) = (k : Int) + 1 := IntWalk.i64_in _ (by omega)
                  have w2 : IntKind.i64.wrap ((k : Int) + 1 + b) = (k : Int) + 1 + b := IntWalk.i64_in _ (by omega)
                  have w3 : IntKind.i64.wrap ((k : Int) + 1 + b + d) = (k : Int) + 1 + b + d := IntWalk.i64_in _ (by omega)
                  obtain ⟨AX, hax⟩ : ∃ AX : Option Addr, (if c = k + 1 then (some ⟨g, o, none⟩ : Option Addr) else some ⟨g, o + (k + 1) * 9, none⟩) = AX := ⟨_, rfl⟩
                  obtain ⟨AY, hay⟩ : ∃ AY : Option Addr, (if c = k + 1 + b then (some ⟨g, o, none⟩ : Option Addr) else some ⟨g, o + (k + 1 + b) * 9, none⟩) = AY := ⟨_, rfl⟩
                  have HXX : Hid (ReadSt wc (.slice AX b (c - (k + 1))) LB) := Lib.hid (by
                    have h9 := HRB.out
                    rw [show k + 1 + b - (k + 1) = b from by omega] at h9
                    rw [← hax]
                    by_cases hv : c = k + 1
                    · rw [if_pos hv]
                      exact readSt_zero (List.length_eq_zero_iff.1 (by rw [HBL.out]; omega)) (by omega) (by omega)
                    · rw [if_neg hv]; exact h9)
                  have HYY : Hid (ReadSt wc (.slice AY d (c - (k + 1 + b))) LE) := Lib.hid (by
                    have h9 := HRE.out
                    rw [show k + 1 + b + d - (k + 1 + b) = d from by omega] at h9
                    rw [← hay]
                    by_cases hv : c = k + 1 + b
                    · rw [if_pos hv]
                      exact readSt_zero (List.length_eq_zero_iff.1 (by rw [HEL.out]; omega)) (by omega) (by omega)
                    · rw [if_neg hv]; exact h9)
                  clear HRB HRE HRD
                  have tn1 : ((k : Int) + 1 + (b : Int)).toNat = k + 1 + b := by omega
                  have tn2 : ((k : Int) + 1 + (b : Int) + (d : Int)).toNat = k + 1 + b + d := by omega

                  have hlB : l + LB.length ≤ 1000 := by rw [HBL.out]; omega
                  have hlE : l + LE.length ≤ 1000 := by rw [HEL.out]; omega
                  have hk11 : (x.kind == 11) = true := by simp [hkk]
                  have hk12 : (x.kind == 12) = false := by simp [hkk]
                  clear hkk
                  rw [hin] at HST
                  obtain ⟨ra, hra⟩ : ∃ ra, deepI (l) LB = ra := ⟨_, rfl⟩
                  obtain ⟨rb, hrb⟩ : ∃ rb, deepI (l) LE = rb := ⟨_, rfl⟩
                  have HRA := Lib.hid hra
                  have HRC := Lib.hid hrb
                  clear hra hrb
                  go_wp2_with fail
                  go_quiet (fail)
                  go_wp2_with fail
                  have hbq := below_drew1 wc nq
                  have HB2 := Lib.hid (below_then HBX.out hbq)
                  have HRB2 := Lib.hid (HXX.out.on hbq)
                  have HRE2 := Lib.hid (HYY.out.on hbq)
                  have y7 := (hbq.cell (p := ⟨wr.heap.size, 7, none⟩) z).trans z7
                  have hW : wr.heap.size < (wc.drewN nq).heap.size := z
                  clear hbq z0 z1 z2 z3 z4 z5 z6 z7 z8
                  generalize wc.drewN nq = W at *
                  go_region_held3 (fun w' => w'.cell? ⟨wr.heap.size, 7, none⟩ = some (.int .i64 d) ∧ Below W.heap.size W w')
                    (first | exact ⟨y7, Below.refl _ _⟩ | exact ⟨y7, below_drT _⟩ | exact keep7 (w1 := W.drew) hW ⟨y7, below_drT _⟩ hb1 | exact keep7 hW (keep7 (w1 := W.drew) hW ⟨y7, below_drT _⟩ hb1) hb2)
                    (first
                      | (have hbb := hb1; clear hbb; go_at_call 34; refine (deep_at IH.out (by omega) hdl HEL.out hdl2 hlE (HRE2.out.on (below_then (below_drT _) hb1))).mono ?_; rw [HRC.out]; rintro e w2 ⟨rfl, hb2⟩)
                      | (go_at_call 34; refine (deep_at IH.out (by omega) hbl HBL.out hbl2 hlB (HRB2.out.on (below_drT _))).mono ?_; rw [HRA.out]; rintro e w1 ⟨rfl, hb1⟩))
                  have HB3 := Lib.hid (below_then HB2.out (below_then (below_drT _) (below_then hb1 hb2)))
                  clear hb1 hb2 y7
                  rcases deep_cases (l) LB with ⟨ea, ea2⟩ | ⟨a, ea, ea2, ea3⟩
                  · obtain rfl : ra = -1 := HRA.out.symm.trans ea2
                    have HN : Hid (R = -1) := Lib.hid (by
                      rw [← HV.out]
                      have h1 := HD.out
                      rw [HX.out, HST.out, ea, comb_n1] at h1
                      unfold deepI; rw [← h1]; rfl)
                    go_wp2_with fail
                    go_ret
                    exact ⟨ret_int HN.out.symm, HB3.out⟩
                  · obtain rfl : ra = a := HRA.out.symm.trans ea2
                    rcases deep_cases (l) LE with ⟨eb, eb2⟩ | ⟨e, eb, eb2, eb3⟩
                    · obtain rfl : rb = -1 := HRC.out.symm.trans eb2
                      have HN : Hid (R = -1) := Lib.hid (by
                        rw [← HV.out]
                        have h1 := HD.out
                        rw [HX.out, HST.out, eb, comb_n2] at h1
                        unfold deepI; rw [← h1]; rfl)
                      go_wp2_with fail
                      go_ret
                      exact ⟨ret_int HN.out.symm, HB3.out⟩
                    · obtain rfl : rb = e := HRC.out.symm.trans eb2
                      rw [HBL.out] at ea3
                      rw [HEL.out] at eb3
                      have HREL : Hid ((deepS l (L.drop (k + 1 + b + d))).map (max (max q (max (a + 1) (e + 1)))) = deepS l L) := Lib.hid (by
                        have h1 := HD.out
                        rw [HX.out, HST.out, ea, eb] at h1
                        rw [← h1]
                        exact comb_max hblk)
                      clear ea ea2 eb eb2
                      go_wp2_with fail
                      all_goals
                        go_wp2_with fail
                        go_roundw
                        case rel => exact ⟨max q (max (a + 1) (e + 1)), k + 1 + b + d, by omega, by omega, congrArg (Value.int .i64) (by omega), by go_num, HB3.out, HREL.out⟩
                        case measure => simp [intOf]; omega
                · clear hd0
                  have hbl : b < L.length := by omega
                  have hdl : d < L.length := by omega
                  have hbl2 : b ≤ 40 := by omega
                  have hdl2 : d ≤ 40 := by omega
                  have hi1 : (k : Int) + 1 ≤ (k : Int) + 1 + b := by omega
                  have hi2 : (k : Int) + 1 + b ≤ (c : Int) := by omega
                  have hi3 : (0 : Int) ≤ (k : Int) + 1 := by omega
                  have hi4 : (0 : Int) ≤ (k : Int) + 1 + b := by omega
                  have hi5 : (k : Int) + 1 + b ≤ (k : Int) + 1 + b + d := by omega
                  have hi6 : (k : Int) + 1 + b + d ≤ (c : Int) := by omega
                  have w1 : IntKind.i64.wrap ((k : Int) + 1) = (k : Int) + 1 := IntWalk.i64_in _ (by omega)
                  have w2 : IntKind.i64.wrap ((k : Int) + 1 + b) = (k : Int) + 1 + b := IntWalk.i64_in _ (by omega)
                  have w3 : IntKind.i64.wrap ((k : Int) + 1 + b + d) = (k : Int) + 1 + b + d := IntWalk.i64_in _ (by omega)
                  obtain ⟨AX, hax⟩ : ∃ AX : Option Addr, (if c = k + 1 then (some ⟨g, o, none⟩ : Option Addr) else some ⟨g, o + (k + 1) * 9, none⟩) = AX := ⟨_, rfl⟩
                  obtain ⟨AY, hay⟩ : ∃ AY : Option Addr, (if c = k + 1 + b then (some ⟨g, o, none⟩ : Option Addr) else some ⟨g, o + (k + 1 + b) * 9, none⟩) = AY := ⟨_, rfl⟩
                  have HXX : Hid (ReadSt wc (.slice AX b (c - (k + 1))) LB) := Lib.hid (by
                    have h9 := HRB.out
                    rw [show k + 1 + b - (k + 1) = b from by omega] at h9
                    rw [← hax]
                    by_cases hv : c = k + 1
                    · rw [if_pos hv]
                      exact readSt_zero (List.length_eq_zero_iff.1 (by rw [HBL.out]; omega)) (by omega) (by omega)
                    · rw [if_neg hv]; exact h9)
                  have HYY : Hid (ReadSt wc (.slice AY d (c - (k + 1 + b))) LE) := Lib.hid (by
                    have h9 := HRE.out
                    rw [show k + 1 + b + d - (k + 1 + b) = d from by omega] at h9
                    rw [← hay]
                    by_cases hv : c = k + 1 + b
                    · rw [if_pos hv]
                      exact readSt_zero (List.length_eq_zero_iff.1 (by rw [HEL.out]; omega)) (by omega) (by omega)
                    · rw [if_neg hv]; exact h9)
                  clear HRB HRE HRD
                  have tn1 : ((k : Int) + 1 + (b : Int)).toNat = k + 1 + b := by omega
                  have tn2 : ((k : Int) + 1 + (b : Int) + (d : Int)).toNat = k + 1 + b + d := by omega

                  have hlB : l + 1 + LB.length ≤ 1000 := by rw [HBL.out]; omega
                  have hlE : l + 1 + LE.length ≤ 1000 := by rw [HEL.out]; omega
                  have hk11 : (x.kind == 11) = false := by simp [hkk]
                  have hk12 : (x.kind == 12) = true := by simp [hkk]
                  clear hkk
                  rw [hin] at HST
                  obtain ⟨ra, hra⟩ : ∃ ra, deepI (l + 1) LB = ra := ⟨_, rfl⟩
                  obtain ⟨rb, hrb⟩ : ∃ rb, deepI (l + 1) LE = rb := ⟨_, rfl⟩
                  have HRA := Lib.hid hra
                  have HRC := Lib.hid hrb
                  clear hra hrb
                  go_wp2_with fail
                  go_quiet (fail)
                  go_wp2_with fail
                  have hbq := below_drew1 wc nq
                  have HB2 := Lib.hid (below_then HBX.out hbq)
                  have HRB2 := Lib.hid (HXX.out.on hbq)
                  have HRE2 := Lib.hid (HYY.out.on hbq)
                  have y7 := (hbq.cell (p := ⟨wr.heap.size, 7, none⟩) z).trans z7
                  have hW : wr.heap.size < (wc.drewN nq).heap.size := z
                  clear hbq z0 z1 z2 z3 z4 z5 z6 z7 z8
                  generalize wc.drewN nq = W at *
                  go_region_held3 (fun w' => w'.cell? ⟨wr.heap.size, 7, none⟩ = some (.int .i64 d) ∧ Below W.heap.size W w')
                    (first | exact ⟨y7, Below.refl _ _⟩ | exact ⟨y7, below_drT _⟩ | exact keep7 (w1 := W.drew) hW ⟨y7, below_drT _⟩ hb1 | exact keep7 hW (keep7 (w1 := W.drew) hW ⟨y7, below_drT _⟩ hb1) hb2)
                    (first
                      | (have hbb := hb1; clear hbb; go_at_call 34; refine (deep_at IH.out (by omega) hdl HEL.out hdl2 hlE (HRE2.out.on (below_then (below_drT _) hb1))).mono ?_; rw [HRC.out]; rintro e w2 ⟨rfl, hb2⟩)
                      | (go_at_call 34; refine (deep_at IH.out (by omega) hbl HBL.out hbl2 hlB (HRB2.out.on (below_drT _))).mono ?_; rw [HRA.out]; rintro e w1 ⟨rfl, hb1⟩))
                  have HB3 := Lib.hid (below_then HB2.out (below_then (below_drT _) (below_then hb1 hb2)))
                  clear hb1 hb2 y7
                  rcases deep_cases (l + 1) LB with ⟨ea, ea2⟩ | ⟨a, ea, ea2, ea3⟩
                  · obtain rfl : ra = -1 := HRA.out.symm.trans ea2
                    have HN : Hid (R = -1) := Lib.hid (by
                      rw [← HV.out]
                      have h1 := HD.out
                      rw [HX.out, HST.out, ea, comb_n1] at h1
                      unfold deepI; rw [← h1]; rfl)
                    go_wp2_with fail
                    go_ret
                    exact ⟨ret_int HN.out.symm, HB3.out⟩
                  · obtain rfl : ra = a := HRA.out.symm.trans ea2
                    rcases deep_cases (l + 1) LE with ⟨eb, eb2⟩ | ⟨e, eb, eb2, eb3⟩
                    · obtain rfl : rb = -1 := HRC.out.symm.trans eb2
                      have HN : Hid (R = -1) := Lib.hid (by
                        rw [← HV.out]
                        have h1 := HD.out
                        rw [HX.out, HST.out, eb, comb_n2] at h1
                        unfold deepI; rw [← h1]; rfl)
                      go_wp2_with fail
                      go_ret
                      exact ⟨ret_int HN.out.symm, HB3.out⟩
                    · obtain rfl : rb = e := HRC.out.symm.trans eb2
                      rw [HBL.out] at ea3
                      rw [HEL.out] at eb3
                      have HREL : Hid ((deepS l (L.drop (k + 1 + b + d))).map (max (max q (max (a + 1) (e + 1)))) = deepS l L) := Lib.hid (by
                        have h1 := HD.out
                        rw [HX.out, HST.out, ea, eb] at h1
                        rw [← h1]
                        exact comb_max hblk)
                      clear ea ea2 eb eb2
                      go_wp2_with fail
                      all_goals
                        go_wp2_with fail
                        go_roundw
                        case rel => exact ⟨max q (max (a + 1) (e + 1)), k + 1 + b + d, by omega, by omega, congrArg (Value.int .i64) (by omega), by go_num, HB3.out, HREL.out⟩
                        case measure => simp [intOf]; omega
              · have hk11 : (x.kind == 11) = false := by unfold blkK at hblk; simp; omega
                have hk12 : (x.kind == 12) = false := by unfold blkK at hblk; simp; omega
                obtain ⟨rfl, rfl⟩ := HKD.out.2 hblk
                have HREL : Hid ((deepS l (L.drop (k + 1))).map (max q) = deepS l L) := Lib.hid (by
                  have h1 := HD.out
                  obtain rfl := List.length_eq_zero_iff.1 HBL.out
                  obtain rfl := List.length_eq_zero_iff.1 HEL.out
                  rw [HX.out, HST.out, deepS_nil] at h1
                  rw [← h1]
                  rw [comb_flat hblk])
                clear hblk
                go_wp2_with fail
                go_quiet (fail)
                go_wp2_with fail
                go_roundw
                case rel => exact ⟨q, k + 1, by omega, by omega, rfl, by go_num, below_then HBX.out (below_drew1 _ _), HREL.out⟩
                case measure => simp [intOf]; omega
    · obtain rfl : k = L.length := by omega
      have HR2 : Hid (R = q) := Lib.hid (by
        rw [← HV.out]
        have := HD.out
        rw [List.drop_length, deepS_nil] at this
        unfold deepI
        rw [← this]; simp)
      clear hlt
      go_wp2_with fail
      go_ret
      exact ⟨ret_int HR2.out.symm, HB.out⟩
theorem rdeep_all : ∀ n, DeepSays n := fun n => Nat.strongRecOn n fun n ih => rdeep_step n ih
theorem rdeep4_any (v : Value) (L : List Stm) (w : World) (h : ReadSt w v L) (h40 : L.length ≤ 40) : Calls Tryz.prog 34 #[v, .int .i64 0] w (GivesN (deepI 0 L) w) :=
  rdeep_all L.length L v 0 w rfl h40 (by omega) h
end Go.Proofs.YtpeohfgadnfnpaaGreatDoor
