/-
  DERIVED. Texts of the walk, packed: SForm, Few.
-/
import Derived.Test.YtpeohfgadnfnpaaGreatDoorQ22
import Derived.Test.YtpeohfgadnfnpaaGreatDoorQ18
import Derived.Test.YtpeohfgadnfnpaaGreatDoorQ06
/-
  DERIVED. Layer 4: contracts of stmt.inForm, deep, Right and Depth.
-/
namespace Go.Proofs.YtpeohfgadnfnpaaGreatDoor
open Go.RowKit

theorem brk_pos (t : Bk) : ∀ l m, (0 < l ↔ 0 < m) → t.brk l = t.brk m := by
  induction t with
  | nil => intro l m _; rfl
  | cons s b e r i1 i2 i3 =>
    intro l m h
    simp only [Bk.brk]
    rw [i3 l m h, show decide (0 < l) = decide (0 < m) from by simp [h]]
    by_cases hk : s.kind = 12
    · rw [if_pos hk, if_pos hk, i1 (l + 1) (m + 1) (by omega), i2 (l + 1) (m + 1) (by omega)]
    · rw [if_neg hk, if_neg hk, i1 l m h, i2 l m h]
def boolN (b : Bool) : Nat := if b = true then 1 else 0
/-- Have statements that are within a loop, or not, what they must have, and their blocks too? -/
def formS (b : Bool) (L : List Stm) : Bool := match treeS L with
  | some t => L.all fitS && t.brk (boolN b)
  | none => false
def formOK (x : Stm) (n : Nat) (b : Bool) : Prop := fitS x = true ∧ headOK x n ∧ ¬ (x.kind = 13 ∧ b = false)
theorem formS_nil (b : Bool) : formS b [] = true := by cases b <;> rfl
theorem formS_bad {x : Stm} {r : List Stm} {b : Bool} (h : ¬ formOK x r.length b) : formS b (x :: r) = false := by
  unfold formS
  rw [treeS_cons]
  by_cases hh : headOK x r.length
  · rw [if_pos hh]
    cases treeS (bodyL x r) with
    | none => rfl
    | some t1 => cases treeS (elseL x r) with
      | none => rfl
      | some t2 => cases treeS (restL x r) with
        | none => rfl
        | some t3 =>
          by_cases hf : fitS x = true
          · have hk : x.kind = 13 ∧ b = false := by
              by_cases hq : x.kind = 13 ∧ b = false
              · exact hq
              · exact absurd ⟨hf, hh, hq⟩ h
            simp [Bk.brk, hk.1, hk.2, boolN]
          · rw [Bool.not_eq_true] at hf
            simp [hf]
  · rw [if_neg hh]
theorem formS_step {x : Stm} {r : List Stm} {b : Bool} (h : formOK x r.length b) : formS b (x :: r) = (formS (b || decide (x.kind = 12)) (bodyL x r) && (formS b (elseL x r) && formS b (restL x r))) := by
  obtain ⟨hf, hh, hk⟩ := h
  unfold formS
  rw [treeS_cons, if_pos hh]
  have hall : (x :: r).all fitS = ((bodyL x r).all fitS && ((elseL x r).all fitS && (restL x r).all fitS)) := by
    rw [List.all_cons, hf, Bool.true_and, ← List.all_append, ← List.all_append, parts_join]
  rw [hall]
  generalize hB : bodyL x r = B
  generalize hE : elseL x r = E
  generalize hR : restL x r = R
  cases h1 : treeS B with
  | none => simp
  | some t1 => cases h2 : treeS E with
    | none => simp
    | some t2 => cases h3 : treeS R with
      | none => simp
      | some t3 =>
        have e13 : (!decide (x.kind = 13) || decide (0 < boolN b)) = true := by
          by_cases h13 : x.kind = 13
          · cases b with
            | true => simp [boolN]
            | false => exact absurd ⟨h13, rfl⟩ hk
          · simp [h13]
        have eb : t1.brk (if x.kind = 12 then boolN b + 1 else boolN b) = t1.brk (boolN (b || decide (x.kind = 12))) := by
          apply brk_pos
          by_cases h12 : x.kind = 12
          · simp [h12, boolN]
          · simp [h12, boolN]
        have ee : t2.brk (if x.kind = 12 then boolN b + 1 else boolN b) = t2.brk (boolN b) := by
          by_cases h12 : x.kind = 12
          · have h0 : x.els = 0 := by
              obtain ⟨_, g2, _, _, g5⟩ := hh
              by_cases hp : 0 < x.els
              · have := g5 hp; omega
              · omega
            have : E = [] := by rw [← hE]; unfold elseL; rw [h0]; simp
            subst this
            have : t2 = .nil := by
              have h4 : treeS [] = some Bk.nil := rfl
              rw [h4] at h2; exact (Option.some.inj h2).symm
            subst this; rfl
          · rw [if_neg h12]
        simp only [Bk.brk, e13, eb, ee, Bool.true_and]
        cases B.all fitS <;> cases E.all fitS <;> cases R.all fitS <;> cases t1.brk (boolN (b || decide (x.kind = 12))) <;> cases t2.brk (boolN b) <;> cases t3.brk (boolN b) <;> rfl
theorem form_right (L : List Stm) : rightS L = (decide (L.length ≤ 40) && formS false L && (match treeS L with
  | some t => decide (t.deep ≤ 12)
  | none => false)) := by
  unfold rightS deepS formS
  cases treeS L with
  | none => simp
  | some t =>
    have : boolN false = 0 := rfl
    rw [this]
    cases h : t.brk 0 <;> simp [h]
theorem formOK_of {x : Stm} {n : Nat} {b : Bool} (ho : ownB x = true) (h2 : ¬ (n : Int) - x.body < x.els) (h3 : ¬ (x.kind = 13 ∧ b = false)) : formOK x n b := by
  rw [ownB_eq] at ho
  simp only [Bool.and_eq_true, Bool.or_eq_true, decide_eq_true_eq] at ho
  obtain ⟨⟨f1, f2⟩, f3⟩ := ho
  refine ⟨f1, ?_, h3⟩
  by_cases hb : blkK x.kind
  · rw [if_pos hb] at f2
    simp only [Bool.and_eq_true, decide_eq_true_eq] at f2
    exact ⟨f2.1, f2.2, by omega, fun _ => hb, fun h => by rcases f3 with h' | h'; omega; exact h'⟩
  · rw [if_neg hb] at f2
    simp only [Bool.and_eq_true, decide_eq_true_eq] at f2
    exact ⟨by omega, by omega, by omega, fun h => by omega, fun h => by omega⟩
theorem formOK_not {x : Stm} {n : Nat} {b : Bool} (h : formOK x n b) : ownB x = true ∧ ¬ (n : Int) < x.body ∧ ¬ (n : Int) - x.body < x.els ∧ ¬ (x.kind = 13 ∧ b = false) := by
  obtain ⟨f1, ⟨g1, g2, g3, g4, g5⟩, h3⟩ := h
  refine ⟨?_, by omega, by omega, h3⟩
  rw [ownB_eq, f1]
  by_cases hb : blkK x.kind
  · rw [if_pos hb]
    by_cases he : x.els = 0
    · simp [he, g1]
    · have := g5 (by omega)
      simp [he, g1, g2, this]
  · rw [if_neg hb]
    have b0 : x.body = 0 := by
      by_cases hp : 0 < x.body
      · exact absurd (g4 hp) hb
      · omega
    have e0 : x.els = 0 := by
      by_cases hp : 0 < x.els
      · exact absurd (Or.inl (g5 hp)) hb
      · omega
    simp [b0, e0]
def lenV : Value → Nat
  | .slice _ n _ => n
  | _ => 0
theorem mem_body {x : Stm} {r : List Stm} {y : Stm} (h : y ∈ bodyL x r) : y ∈ r := List.mem_of_mem_take h
theorem mem_else {x : Stm} {r : List Stm} {y : Stm} (h : y ∈ elseL x r) : y ∈ r := List.mem_of_mem_drop (List.mem_of_mem_take h)
theorem mem_rest {x : Stm} {r : List Stm} {y : Stm} (h : y ∈ restL x r) : y ∈ r := List.mem_of_mem_drop h
theorem ReadSt.lenV {w : World} {v : Value} {L : List Stm} (h : ReadSt w v L) : lenV v = L.length := by
  obtain ⟨A, c, rfl, _⟩ := h; rfl
def FormSays (n : Nat) : Prop := ∀ (L : List Stm) (v : Value) (b : Bool) (w : World), L.length = n → n ≤ 40 → (∀ x ∈ L, SmallS x) → ReadSt w v L → Tabs w → Calls Tryz.prog 31 #[v, .bool b] w (TellsB (formS b L) w)
set_option maxRecDepth 100000 in
set_option maxHeartbeats 8000000 in
theorem form_step (n : Nat) (ih : ∀ m, m < n → FormSays m) : FormSays n := by
  intro L v b w hn h40 hs h ht
  subst hn
  have HL := Lib.hid h
  have IH := Lib.hid ih
  have HS := Lib.hid hs
  have HT := Lib.hid ht
  clear ih hs ht
  obtain ⟨A, c, rfl, _⟩ := h
  obtain ⟨R, hR⟩ : ∃ R, formS b L = R := ⟨_, rfl⟩
  rw [hR]
  have HV := Lib.hid hR
  clear hR
  go_enter Tryz.func31, Tryz.ntmps31
  go_wp2_with fail
  go_loopw [0] (fun v wr => ∃ M : List Stm, M.length ≤ L.length ∧ ReadSt wr v M ∧ (∀ x ∈ M, SmallS x) ∧ formS b M = R ∧ Below w.heap.size w wr) (fun v _ => lenV v)
  case atStart => exact ⟨L, Nat.le_refl _, HL.out, HS.out, HV.out, Below.refl _ _⟩
  case round =>
    obtain ⟨M, hM, hr, hsm, hf, hb⟩ := hrel
    have HM := Lib.hid hr
    have HF := Lib.hid hf
    have HB := Lib.hid hb
    have HSM := Lib.hid hsm
    have HTR := Lib.hid (HT.out.on hb)
    clear hf hb hsm
    obtain ⟨A', c', rfl, hc', hm', hr⟩ := hr
    cases M with
    | nil =>
      have HN : Hid (R = true) := Lib.hid (by rw [← HF.out]; exact formS_nil b)
      clear hr
      go_wp2_with fail
      go_ret
      exact ⟨ret_bool HN.out.symm, HB.out⟩
    | cons x r =>
      obtain ⟨g, o, AE, nE, cE, AF, nF, cF, rfl, h9⟩ := hr 0 x rfl
      have HSX := Lib.hid (HSM.out x (List.mem_cons_self ..))
      clear hr
      obtain ⟨lt9, x0, x1, x2, x3, x4, x5, x6, x7, x8, re, rf⟩ := h9
      simp only [Nat.zero_mul, Nat.add_zero] at x0 x1 x2 x3 x4 x5 x6 x7 x8
      have HRE := Lib.hid re
      have HRF := Lib.hid rf
      clear re rf
      rw [show (x :: r).length = r.length + 1 from rfl] at hc' hM ⊢
      go_upto_region 4 with (fail)
      have HBX := Lib.hid ((Below.refl wr.heap.size wr).alloc (Nat.le_refl _) (.cells #[.int .i64 x.kind, .string ⟨x.reg.toArray⟩, .string ⟨x.name.toArray⟩, .slice AE nE cE, .slice AF nF cF, .int .i64 x.n, .int .i64 x.body, .int .i64 x.els, .int .i64 x.pl] 31))
      have N9 := Lib.hid (nine_new wr (.int .i64 x.kind) (.string ⟨x.reg.toArray⟩) (.string ⟨x.name.toArray⟩) (.slice AE nE cE) (.slice AF nF cF) (.int .i64 x.n) (.int .i64 x.body) (.int .i64 x.els) (.int .i64 x.pl) 31)
      generalize wr.alloc (.cells #[.int .i64 x.kind, .string ⟨x.reg.toArray⟩, .string ⟨x.name.toArray⟩, .slice AE nE cE, .slice AF nF cF, .int .i64 x.n, .int .i64 x.body, .int .i64 x.els, .int .i64 x.pl] 31) = X at *
      clear x0 x1 x2 x3 x4 x5 x6 x7 x8 lt9
      obtain ⟨z, z0, z1, z2, z3, z4, z5, z6, z7, z8⟩ := N9.out
      go_wp2_with fail
      refine (own_any x (.slice AE nE cE) (.slice AF nF cF) _ (HRE.out.on HBX.out) (HRF.out.on HBX.out) HSX.out (HTR.out.on HBX.out)).mono ?_
      cases ho : ownB x with
      | false =>
        have HN : Hid (R = false) := Lib.hid (by rw [← HF.out]; exact formS_bad (fun hk => by rw [(formOK_not hk).1] at ho; cases ho))
        rintro e1 w1 ⟨rfl, hb1⟩
        go_wp2_with fail
        go_ret
        exact ⟨ret_bool HN.out.symm, below_then HB.out (below_then HBX.out hb1)⟩
      | true =>
        rintro e1 w1 ⟨rfl, hb1⟩
        have HO := Lib.hid ho
        have HB1 := Lib.hid (below_then HBX.out hb1)
        have N1 := Lib.hid (N9.out.on hb1)
        have HM1 := Lib.hid (HM.out.on HB1.out)
        clear ho hb1 z z0 z1 z2 z3 z4 z5 z6 z7 z8 N9
        obtain ⟨z, z0, z1, z2, z3, z4, z5, z6, z7, z8⟩ := N1.out
        by_cases c1 : (r.length : Int) < x.body
        · have HN : Hid (R = false) := Lib.hid (by rw [← HF.out]; exact formS_bad (fun hk => (formOK_not hk).2.1 c1))
          go_wp2_with fail
          go_ret
          exact ⟨ret_bool HN.out.symm, below_then HB.out HB1.out⟩
        · have hb0 : 0 ≤ x.body := by
            have := HO.out
            rw [ownB_eq] at this
            simp only [Bool.and_eq_true] at this
            obtain ⟨⟨_, h2⟩, _⟩ := this
            split at h2
            · simp at h2; omega
            · simp at h2; omega
          by_cases c2 : (r.length : Int) - x.body < x.els
          · have HN : Hid (R = false) := Lib.hid (by rw [← HF.out]; exact formS_bad (fun hk => (formOK_not hk).2.2.1 c2))
            go_wp2_with fail
            go_ret
            exact ⟨ret_bool HN.out.symm, below_then HB.out HB1.out⟩
          · by_cases c3 : x.kind = 13 ∧ b = false
            · have HN : Hid (R = false) := Lib.hid (by rw [← HF.out]; exact formS_bad (fun hk => (formOK_not hk).2.2.2 c3))
              obtain ⟨c4, rfl⟩ := c3
              have c5 : (x.kind == 13) = true := by simp [c4]
              clear c4
              go_wp2_with fail
              go_ret
              exact ⟨ret_bool HN.out.symm, below_then HB.out HB1.out⟩
            · have HK := Lib.hid (formOK_of HO.out c2 c3)
              have HP := Lib.hid (parts_len HK.out.2.1)
              have hlen : (bodyL x r).length < L.length ∧ (elseL x r).length < L.length ∧ (restL x r).length ≤ r.length := by
                have h1 := HP.out
                have h2 := HK.out.2.1.2.1
                omega
              obtain ⟨l1, l2, l3⟩ := hlen
              have HST := Lib.hid (formS_step HK.out)
              cases b with
              | true =>
                have HIN : Hid ((true || decide (x.kind = 12)) = true) := Lib.hid rfl
                clear c3
                cases c5 : (x.kind == 13) with
                | true =>
                  go_wp2_with fail
                  refine (cut_says _ x r _ HM1.out HK.out.2.1 (by omega)).mono ?_
                  rintro e2 w2 ⟨v1, v2, v3, rfl, r1, r2, r3, hb2⟩
                  have R1 := Lib.hid r1
                  have R2 := Lib.hid r2
                  have R3 := Lib.hid r3
                  have HB2 := Lib.hid (below_then HB1.out hb2)
                  have N2 := Lib.hid (N1.out.on hb2)
                  clear r1 r2 r3 hb2 z z0 z1 z2 z3 z4 z5 z6 z7 z8 N1
                  have z0 := N2.out.c0
                  go_wp2_with fail
                  refine (IH.out _ l1 (bodyL x r) v1 true _ rfl (by omega) (fun y hy => HSM.out y (List.mem_cons_of_mem _ (mem_body hy))) R1.out (HTR.out.on HB2.out)).mono ?_
                  cases q1 : formS true (bodyL x r) with
                  | false =>
                    have HN : Hid (R = false) := Lib.hid (by rw [← HF.out, HST.out, HIN.out, q1]; rfl)
                    rintro e3 w3 ⟨rfl, hb3⟩
                    go_wp2_with fail
                    go_ret
                    exact ⟨ret_bool HN.out.symm, below_then HB.out (below_then HB2.out hb3)⟩
                  | true =>
                    rintro e3 w3 ⟨rfl, hb3⟩
                    have HB3 := Lib.hid (below_then HB2.out hb3)
                    have R2' := Lib.hid (R2.out.on hb3)
                    have R3' := Lib.hid (R3.out.on hb3)
                    clear hb3 z0
                    go_wp2_with fail
                    refine (IH.out _ l2 (elseL x r) v2 true _ rfl (by omega) (fun y hy => HSM.out y (List.mem_cons_of_mem _ (mem_else hy))) R2'.out (HTR.out.on HB3.out)).mono ?_
                    cases q2 : formS true (elseL x r) with
                    | false =>
                      have HN : Hid (R = false) := Lib.hid (by rw [← HF.out, HST.out, HIN.out, q1, q2]; rfl)
                      rintro e4 w4 ⟨rfl, hb4⟩
                      go_wp2_with fail
                      go_ret
                      exact ⟨ret_bool HN.out.symm, below_then HB.out (below_then HB3.out hb4)⟩
                    | true =>
                      have HN : Hid (formS true (restL x r) = R) := Lib.hid (by rw [← HF.out, HST.out, HIN.out, q1, q2]; rfl)
                      rintro e4 w4 ⟨rfl, hb4⟩
                      have HB4 := Lib.hid (below_then HB3.out hb4)
                      have R3'' := Lib.hid (R3'.out.on hb4)
                      clear hb4
                      go_wp2_with fail
                      go_roundw
                      case rel => exact ⟨restL x r, by omega, R3''.out, fun y hy => HSM.out y (List.mem_cons_of_mem _ (mem_rest hy)), HN.out, below_then HB.out HB4.out⟩
                      case measure => rw [R3''.out.lenV]; show _ < r.length + 1; omega
                | false =>
                  go_wp2_with fail
                  refine (cut_says _ x r _ HM1.out HK.out.2.1 (by omega)).mono ?_
                  rintro e2 w2 ⟨v1, v2, v3, rfl, r1, r2, r3, hb2⟩
                  have R1 := Lib.hid r1
                  have R2 := Lib.hid r2
                  have R3 := Lib.hid r3
                  have HB2 := Lib.hid (below_then HB1.out hb2)
                  have N2 := Lib.hid (N1.out.on hb2)
                  clear r1 r2 r3 hb2 z z0 z1 z2 z3 z4 z5 z6 z7 z8 N1
                  have z0 := N2.out.c0
                  go_wp2_with fail
                  refine (IH.out _ l1 (bodyL x r) v1 true _ rfl (by omega) (fun y hy => HSM.out y (List.mem_cons_of_mem _ (mem_body hy))) R1.out (HTR.out.on HB2.out)).mono ?_
                  cases q1 : formS true (bodyL x r) with
                  | false =>
                    have HN : Hid (R = false) := Lib.hid (by rw [← HF.out, HST.out, HIN.out, q1]; rfl)
                    rintro e3 w3 ⟨rfl, hb3⟩
                    go_wp2_with fail
                    go_ret
                    exact ⟨ret_bool HN.out.symm, below_then HB.out (below_then HB2.out hb3)⟩
                  | true =>
                    rintro e3 w3 ⟨rfl, hb3⟩
                    have HB3 := Lib.hid (below_then HB2.out hb3)
                    have R2' := Lib.hid (R2.out.on hb3)
                    have R3' := Lib.hid (R3.out.on hb3)
                    clear hb3 z0
                    go_wp2_with fail
                    refine (IH.out _ l2 (elseL x r) v2 true _ rfl (by omega) (fun y hy => HSM.out y (List.mem_cons_of_mem _ (mem_else hy))) R2'.out (HTR.out.on HB3.out)).mono ?_
                    cases q2 : formS true (elseL x r) with
                    | false =>
                      have HN : Hid (R = false) := Lib.hid (by rw [← HF.out, HST.out, HIN.out, q1, q2]; rfl)
                      rintro e4 w4 ⟨rfl, hb4⟩
                      go_wp2_with fail
                      go_ret
                      exact ⟨ret_bool HN.out.symm, below_then HB.out (below_then HB3.out hb4)⟩
                    | true =>
                      have HN : Hid (formS true (restL x r) = R) := Lib.hid (by rw [← HF.out, HST.out, HIN.out, q1, q2]; rfl)
                      rintro e4 w4 ⟨rfl, hb4⟩
                      have HB4 := Lib.hid (below_then HB3.out hb4)
                      have R3'' := Lib.hid (R3'.out.on hb4)
                      clear hb4
                      go_wp2_with fail
                      go_roundw
                      case rel => exact ⟨restL x r, by omega, R3''.out, fun y hy => HSM.out y (List.mem_cons_of_mem _ (mem_rest hy)), HN.out, below_then HB.out HB4.out⟩
                      case measure => rw [R3''.out.lenV]; show _ < r.length + 1; omega
              | false =>
                have c4 : ¬ x.kind = 13 := fun h => c3 ⟨h, rfl⟩
                have c5 : (x.kind == 13) = false := by simp [c4]
                clear c3 c4
                by_cases c6 : x.kind = 12
                · have c7 : (x.kind == 12) = true := by simp [c6]
                  have HIN : Hid ((false || decide (x.kind = 12)) = true) := Lib.hid (by simp [c6])
                  clear c6
                  go_wp2_with fail
                  refine (cut_says _ x r _ HM1.out HK.out.2.1 (by omega)).mono ?_
                  rintro e2 w2 ⟨v1, v2, v3, rfl, r1, r2, r3, hb2⟩
                  have R1 := Lib.hid r1
                  have R2 := Lib.hid r2
                  have R3 := Lib.hid r3
                  have HB2 := Lib.hid (below_then HB1.out hb2)
                  have N2 := Lib.hid (N1.out.on hb2)
                  clear r1 r2 r3 hb2 z z0 z1 z2 z3 z4 z5 z6 z7 z8 N1
                  have z0 := N2.out.c0
                  go_wp2_with fail
                  refine (IH.out _ l1 (bodyL x r) v1 true _ rfl (by omega) (fun y hy => HSM.out y (List.mem_cons_of_mem _ (mem_body hy))) R1.out (HTR.out.on HB2.out)).mono ?_
                  cases q1 : formS true (bodyL x r) with
                  | false =>
                    have HN : Hid (R = false) := Lib.hid (by rw [← HF.out, HST.out, HIN.out, q1]; rfl)
                    rintro e3 w3 ⟨rfl, hb3⟩
                    go_wp2_with fail
                    go_ret
                    exact ⟨ret_bool HN.out.symm, below_then HB.out (below_then HB2.out hb3)⟩
                  | true =>
                    rintro e3 w3 ⟨rfl, hb3⟩
                    have HB3 := Lib.hid (below_then HB2.out hb3)
                    have R2' := Lib.hid (R2.out.on hb3)
                    have R3' := Lib.hid (R3.out.on hb3)
                    clear hb3 z0
                    go_wp2_with fail
                    refine (IH.out _ l2 (elseL x r) v2 false _ rfl (by omega) (fun y hy => HSM.out y (List.mem_cons_of_mem _ (mem_else hy))) R2'.out (HTR.out.on HB3.out)).mono ?_
                    cases q2 : formS false (elseL x r) with
                    | false =>
                      have HN : Hid (R = false) := Lib.hid (by rw [← HF.out, HST.out, HIN.out, q1, q2]; rfl)
                      rintro e4 w4 ⟨rfl, hb4⟩
                      go_wp2_with fail
                      go_ret
                      exact ⟨ret_bool HN.out.symm, below_then HB.out (below_then HB3.out hb4)⟩
                    | true =>
                      have HN : Hid (formS false (restL x r) = R) := Lib.hid (by rw [← HF.out, HST.out, HIN.out, q1, q2]; rfl)
                      rintro e4 w4 ⟨rfl, hb4⟩
                      have HB4 := Lib.hid (below_then HB3.out hb4)
                      have R3'' := Lib.hid (R3'.out.on hb4)
                      clear hb4
                      go_wp2_with fail
                      go_roundw
                      case rel => exact ⟨restL x r, by omega, R3''.out, fun y hy => HSM.out y (List.mem_cons_of_mem _ (mem_rest hy)), HN.out, below_then HB.out HB4.out⟩
                      case measure => rw [R3''.out.lenV]; show _ < r.length + 1; omega
                · have c7 : (x.kind == 12) = false := by simp [c6]
                  have HIN : Hid ((false || decide (x.kind = 12)) = false) := Lib.hid (by simp [c6])
                  clear c6
                  go_wp2_with fail
                  refine (cut_says _ x r _ HM1.out HK.out.2.1 (by omega)).mono ?_
                  rintro e2 w2 ⟨v1, v2, v3, rfl, r1, r2, r3, hb2⟩
                  have R1 := Lib.hid r1
                  have R2 := Lib.hid r2
                  have R3 := Lib.hid r3
                  have HB2 := Lib.hid (below_then HB1.out hb2)
                  have N2 := Lib.hid (N1.out.on hb2)
                  clear r1 r2 r3 hb2 z z0 z1 z2 z3 z4 z5 z6 z7 z8 N1
                  have z0 := N2.out.c0
                  go_wp2_with fail
                  refine (IH.out _ l1 (bodyL x r) v1 false _ rfl (by omega) (fun y hy => HSM.out y (List.mem_cons_of_mem _ (mem_body hy))) R1.out (HTR.out.on HB2.out)).mono ?_
                  cases q1 : formS false (bodyL x r) with
                  | false =>
                    have HN : Hid (R = false) := Lib.hid (by rw [← HF.out, HST.out, HIN.out, q1]; rfl)
                    rintro e3 w3 ⟨rfl, hb3⟩
                    go_wp2_with fail
                    go_ret
                    exact ⟨ret_bool HN.out.symm, below_then HB.out (below_then HB2.out hb3)⟩
                  | true =>
                    rintro e3 w3 ⟨rfl, hb3⟩
                    have HB3 := Lib.hid (below_then HB2.out hb3)
                    have R2' := Lib.hid (R2.out.on hb3)
                    have R3' := Lib.hid (R3.out.on hb3)
                    clear hb3 z0
                    go_wp2_with fail
                    refine (IH.out _ l2 (elseL x r) v2 false _ rfl (by omega) (fun y hy => HSM.out y (List.mem_cons_of_mem _ (mem_else hy))) R2'.out (HTR.out.on HB3.out)).mono ?_
                    cases q2 : formS false (elseL x r) with
                    | false =>
                      have HN : Hid (R = false) := Lib.hid (by rw [← HF.out, HST.out, HIN.out, q1, q2]; rfl)
                      rintro e4 w4 ⟨rfl, hb4⟩
                      go_wp2_with fail
                      go_ret
                      exact ⟨ret_bool HN.out.symm, below_then HB.out (below_then HB3.out hb4)⟩
                    | true =>
                      have HN : Hid (formS false (restL x r) = R) := Lib.hid (by rw [← HF.out, HST.out, HIN.out, q1, q2]; rfl)
                      rintro e4 w4 ⟨rfl, hb4⟩
                      have HB4 := Lib.hid (below_then HB3.out hb4)
                      have R3'' := Lib.hid (R3'.out.on hb4)
                      clear hb4
                      go_wp2_with fail
                      go_roundw
                      case rel => exact ⟨restL x r, by omega, R3''.out, fun y hy => HSM.out y (List.mem_cons_of_mem _ (mem_rest hy)), HN.out, below_then HB.out HB4.out⟩
                      case measure => rw [R3''.out.lenV]; show _ < r.length + 1; omega
theorem form_all : ∀ n, FormSays n := by
  intro n
  induction n using Nat.strongRecOn with
  | _ n ih => exact form_step n ih
end Go.Proofs.YtpeohfgadnfnpaaGreatDoor
/-
  DERIVED. Layer 4: how long names, expressions, lines are; how deep a block; nothing of the program in it.
-/
namespace Go.Proofs.YtpeohfgadnfnpaaGreatDoor
open Go.RowKit

theorem deep_le_count (b : Bk) : b.deep ≤ b.count := by
  induction b with
  | nil => exact Nat.le_refl _
  | cons s b e r h1 h2 h3 =>
    simp only [Bk.deep, Bk.count]
    split <;> omega
theorem name_len {l : List UInt8} (h : nameB l = true) : l.length ≤ 16 := by
  unfold nameB at h
  simp only [Bool.and_eq_true, decide_eq_true_eq] at h
  exact h.1.1.1.2
theorem shownL_len {l : List Nod} (h : rightL l = true) : (shownL l).length ≤ 840 := by
  obtain ⟨x, rfl, h1, h2, h3, h4, _⟩ := good_right h
  rw [h4]; exact shown_len h1 h3
theorem right_small {l : List Nod} (h : rightL l = true) : l.length ≤ 10000 ∧ SmallN l := by
  obtain ⟨x, rfl, h1, h2, h3, h4, _⟩ := good_right h
  refine ⟨by rw [flat_len]; omega, fun a ha => ?_⟩
  have := small_all h1.2 a ha
  omega
theorem head_len {x : Stm} (h : fitS x = true) : (headS x).length ≤ 1800 := by
  obtain ⟨k, hk, h1, h2⟩ := fit_kind h
  obtain ⟨_, _, _, hr, hn, he, hf, ht⟩ := fit_inv hk h
  have hrl : x.reg.length ≤ 16 := by
    split at hr
    · exact name_len hr
    · rw [List.isEmpty_iff.1 hr]; simp
  have hnl : x.name.length ≤ 16 := by
    split at hn
    · exact name_len hn
    · rw [List.isEmpty_iff.1 hn]; simp
  have nil0 : (shownL []).length ≤ 840 := by decide
  have hel : (shownL x.e).length ≤ 840 := by
    split at he
    · exact shownL_len he
    · rw [List.isEmpty_iff.1 he]; exact nil0
  have hfl : (shownL x.f).length ≤ 840 := by
    split at hf
    · exact shownL_len hf
    · rw [List.isEmpty_iff.1 hf]; exact nil0
  have kwl : ∀ k : Fin 15, (kwL (k.1 : Nat)).length ≤ 6 := by decide
  have kwk : (kwL x.kind).length ≤ 6 := by rw [hk]; exact kwl ⟨k, by omega⟩
  have k2 : (kwL 2).length ≤ 6 := by decide
  have k3 : (kwL 3).length ≤ 6 := by decide
  have k4 : (kwL 4).length ≤ 6 := by decide
  have k12 : (kwL 12).length ≤ 6 := by decide
  unfold headS
  split
  · simp only [List.length_append, List.length_cons, List.length_nil]; omega
  split
  · simp only [List.length_append, List.length_cons, List.length_nil]; omega
  split
  · simp only [List.length_append, List.length_cons, List.length_nil]; omega
  split
  · simp only [List.length_append, List.length_cons, List.length_nil]; omega
  split
  · simp only [List.length_append, List.length_cons]; omega
  split
  · rename_i h12
    have hkk : k = 12 := by omega
    rw [if_pos hkk] at ht
    have ht' : 1 ≤ x.n ∧ x.n ≤ 8 := by simpa using ht
    have hil : (Lib.itoa x.n).length ≤ 20 := by
      obtain ⟨u, hu⟩ : ∃ u : Nat, x.n = u := ⟨x.n.toNat, by omega⟩
      rw [hu, Lib.itoa_nonneg, dec_small (by omega)]; simp
    simp only [List.length_append, List.length_cons]; omega
  split
  · omega
  · simp only [List.length_append, List.length_cons]; omega
theorem lines_len : ∀ (b : Bk) (ind : List UInt8), GoodB b → (linesB ind b).length ≤ b.count * (3 * ind.length + 6 * b.count + 2000) := by
  intro b
  induction b with
  | nil => intro ind _; simp [linesB]
  | cons s b e r i1 i2 i3 =>
    intro ind h
    obtain ⟨_, _, _, _, g1, g2, g3, g4⟩ := good_cons.1 h
    have h1 := i1 (ind ++ [32, 32]) g2
    have h2 := i2 (ind ++ [32, 32]) g3
    have h3 := i3 ind g4
    have hh := head_len g1
    have he : elseW.length = 4 := rfl
    generalize hK : 3 * ind.length + 6 * (Bk.cons s b e r).count + 2000 = K
    have hc : (Bk.cons s b e r).count = b.count + e.count + r.count + 1 := rfl
    have m1 : (linesB (ind ++ [32, 32]) b).length ≤ b.count * K := Nat.le_trans h1 (Nat.mul_le_mul_left _ (by rw [List.length_append]; simp only [List.length_cons, List.length_nil]; omega))
    have m2 : (linesB (ind ++ [32, 32]) e).length ≤ e.count * K := Nat.le_trans h2 (Nat.mul_le_mul_left _ (by rw [List.length_append]; simp only [List.length_cons, List.length_nil]; omega))
    have m3 : (linesB ind r).length ≤ r.count * K := Nat.le_trans h3 (Nat.mul_le_mul_left _ (by omega))
    rw [hc, Nat.add_mul, Nat.add_mul, Nat.add_mul, Nat.one_mul]
    have hK2 : 3 * ind.length + 2000 ≤ K := by omega
    unfold linesB
    split
    · split
      · simp only [List.length_append, List.length_cons, List.length_nil]; omega
      · simp only [List.length_append, List.length_cons, List.length_nil]; omega
    · simp only [List.length_append, List.length_cons, List.length_nil]; omega
theorem lines_small {b : Bk} {ind : List UInt8} (h : GoodB b) (hc : b.count ≤ 40) (hi : ind.length ≤ 100) : (linesB ind b).length ≤ 1000000 := by
  have h1 := lines_len b ind h
  have h2 : b.count * (3 * ind.length + 6 * b.count + 2000) ≤ 40 * (3 * ind.length + 6 * b.count + 2000) := Nat.mul_le_mul_right _ hc
  omega
end Go.Proofs.YtpeohfgadnfnpaaGreatDoor
