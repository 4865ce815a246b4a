/-
  DERIVED. Texts of the walk, packed: SSame, Box.
-/
import Derived.Test.YtpeohfgadnfnpaaGreatDoorQ21
import Derived.Test.YtpeohfgadnfnpaaGreatDoorQ06
import Derived.Test.YtpeohfgadnfnpaaGreatDoorQ02
/-
  DERIVED. Layer 4: contracts of stmt.Same: its closure, slices.EqualFunc at statements, Same itself.
-/
namespace Go.Proofs.YtpeohfgadnfnpaaGreatDoor
open Go.RowKit

theorem stmEq_false (x y : Stm) : stmEq false x y = (x.kind == y.kind && (x.reg == y.reg && (x.name == y.name && (sameN false x.e y.e && (sameN false x.f y.f && (x.n == y.n && (x.body == y.body && x.els == y.els))))))) := by
  unfold stmEq
  cases x.kind == y.kind <;> cases x.reg == y.reg <;> cases x.name == y.name <;> cases x.n == y.n <;> cases x.body == y.body <;> cases x.els == y.els <;> cases sameN false x.e y.e <;> cases sameN false x.f y.f <;> rfl
set_option maxRecDepth 100000 in
set_option maxHeartbeats 8000000 in
theorem alike_any (x y : Stm) (vE vF uE uF : Value) (w : World) (hE : ReadN w vE x.e) (hF : ReadN w vF x.f) (kE : ReadN w uE y.e) (kF : ReadN w uF y.f) (hs : SmallS x) : Calls Tryz.prog 38 #[stmV x vE vF, stmV y uE uF] w (TellsB (stmEq false x y) w) := by
  have s3 := hs.2.2.1
  have s4 := hs.2.2.2.1
  clear hs
  have HV := Lib.hid (stmEq_false x y)
  obtain ⟨V, hV⟩ : ∃ V, stmEq false x y = V := ⟨_, rfl⟩
  rw [hV]
  rw [hV] at HV
  clear hV
  obtain ⟨k, reg, name, e, f, n, body, els, pl⟩ := x
  obtain ⟨k', reg', name', e', f', n', body', els', pl'⟩ := y
  obtain ⟨AE, cE, rfl, _⟩ := id hE
  obtain ⟨AF, cF, rfl, _⟩ := id hF
  obtain ⟨BE, dE, rfl, _⟩ := id kE
  obtain ⟨BF, dF, rfl, _⟩ := id kF
  simp only at *
  unfold stmV
  simp only
  have HB1 := Lib.hid ((Below.refl w.heap.size w).alloc (Nat.le_refl _) (.cells #[.int .i64 k, .string ⟨reg.toArray⟩, .string ⟨name.toArray⟩, .slice AE e.length cE, .slice AF f.length cF, .int .i64 n, .int .i64 body, .int .i64 els, .int .i64 pl] 31))
  have N1 := Lib.hid (nine_new w (.int .i64 k) (.string ⟨reg.toArray⟩) (.string ⟨name.toArray⟩) (.slice AE e.length cE) (.slice AF f.length cF) (.int .i64 n) (.int .i64 body) (.int .i64 els) (.int .i64 pl) 31)
  go_enter Tryz.func38, Tryz.ntmps38
  go_upto_region 1 with (fail)
  have hz : w.heap.size + 1 = (w.alloc (.cells #[.int .i64 k, .string ⟨reg.toArray⟩, .string ⟨name.toArray⟩, .slice AE e.length cE, .slice AF f.length cF, .int .i64 n, .int .i64 body, .int .i64 els, .int .i64 pl] 31)).heap.size := by simp
  rw [hz]
  generalize w.alloc (.cells #[.int .i64 k, .string ⟨reg.toArray⟩, .string ⟨name.toArray⟩, .slice AE e.length cE, .slice AF f.length cF, .int .i64 n, .int .i64 body, .int .i64 els, .int .i64 pl] 31) = X at *
  have HB2 := Lib.hid ((Below.refl X.heap.size X).alloc (Nat.le_refl _) (.cells #[.int .i64 k', .string ⟨reg'.toArray⟩, .string ⟨name'.toArray⟩, .slice BE e'.length dE, .slice BF f'.length dF, .int .i64 n', .int .i64 body', .int .i64 els', .int .i64 pl'] 31))
  have N2 := Lib.hid (nine_new X (.int .i64 k') (.string ⟨reg'.toArray⟩) (.string ⟨name'.toArray⟩) (.slice BE e'.length dE) (.slice BF f'.length dF) (.int .i64 n') (.int .i64 body') (.int .i64 els') (.int .i64 pl') 31)
  have N1' := Lib.hid (N1.out.on HB2.out)
  generalize X.alloc (.cells #[.int .i64 k', .string ⟨reg'.toArray⟩, .string ⟨name'.toArray⟩, .slice BE e'.length dE, .slice BF f'.length dF, .int .i64 n', .int .i64 body', .int .i64 els', .int .i64 pl'] 31) = Y at *
  have HB := Lib.hid (below_then HB1.out HB2.out)
  have RE := Lib.hid (hE.on HB.out)
  have RF := Lib.hid (hF.on HB.out)
  have QE := Lib.hid (kE.on HB.out)
  have QF := Lib.hid (kF.on HB.out)
  clear hE hF kE kF N1 HB1 HB2 hz
  obtain ⟨_, a0, a1, a2, a3, a4, a5, a6, a7, a8⟩ := N1'.out
  obtain ⟨_, b0, b1, b2, b3, b4, b5, b6, b7, b8⟩ := N2.out
  -- CHAIN
  cases e1 : (k == k') with
  | false =>
    have HN : Hid (V = false) := Lib.hid (by rw [HV.out, e1]; simp)
    go_wp2_with fail
    go_ret
    exact ⟨ret_bool HN.out.symm, HB.out⟩
  | true =>
    cases e2 : (reg == reg') with
    | false =>
      have HN : Hid (V = false) := Lib.hid (by rw [HV.out, e2]; simp)
      go_wp2_with fail
      go_ret
      exact ⟨ret_bool HN.out.symm, HB.out⟩
    | true =>
      cases e3 : (name == name') with
      | false =>
        have HN : Hid (V = false) := Lib.hid (by rw [HV.out, e3]; simp)
        go_wp2_with fail
        go_ret
        exact ⟨ret_bool HN.out.symm, HB.out⟩
      | true =>
        go_wp2_with fail
        refine (same_any _ _ e e' _ RE.out QE.out s3).mono ?_
        cases e4 : sameN false e e' with
        | false =>
          have HN : Hid (V = false) := Lib.hid (by rw [HV.out, e4]; simp)
          rintro r1 w1 ⟨rfl, hb1⟩
          go_wp2_with fail
          go_ret
          exact ⟨ret_bool HN.out.symm, below_then HB.out hb1⟩
        | true =>
          rintro r1 w1 ⟨rfl, hb1⟩
          have HC1 := Lib.hid (hb1)
          clear hb1 a0 a1 a2 a3 a4 a5 a6 a7 a8 b0 b1 b2 b3 b4 b5 b6 b7 b8
          obtain ⟨_, a0, a1, a2, a3, a4, a5, a6, a7, a8⟩ := N1'.out.on HC1.out
          obtain ⟨_, b0, b1, b2, b3, b4, b5, b6, b7, b8⟩ := N2.out.on HC1.out
          go_wp2_with fail
          refine (same_any _ _ f f' _ (RF.out.on HC1.out) (QF.out.on HC1.out) s4).mono ?_
          cases e5 : sameN false f f' with
          | false =>
            have HN : Hid (V = false) := Lib.hid (by rw [HV.out, e5]; simp)
            rintro r1 w2 ⟨rfl, hb2⟩
            go_wp2_with fail
            go_ret
            exact ⟨ret_bool HN.out.symm, below_then (below_then HB.out HC1.out) hb2⟩
          | true =>
            rintro r1 w2 ⟨rfl, hb2⟩
            have HC2 := Lib.hid (below_then HC1.out hb2)
            clear hb2 a0 a1 a2 a3 a4 a5 a6 a7 a8 b0 b1 b2 b3 b4 b5 b6 b7 b8
            obtain ⟨_, a0, a1, a2, a3, a4, a5, a6, a7, a8⟩ := N1'.out.on HC2.out
            obtain ⟨_, b0, b1, b2, b3, b4, b5, b6, b7, b8⟩ := N2.out.on HC2.out
            cases e6 : (n == n') with
            | false =>
              have HN : Hid (V = false) := Lib.hid (by rw [HV.out, e6]; simp)
              go_wp2_with fail
              go_ret
              exact ⟨ret_bool HN.out.symm, (below_then HB.out HC2.out)⟩
            | true =>
              cases e7 : (body == body') with
              | false =>
                have HN : Hid (V = false) := Lib.hid (by rw [HV.out, e7]; simp)
                go_wp2_with fail
                go_ret
                exact ⟨ret_bool HN.out.symm, (below_then HB.out HC2.out)⟩
              | true =>
                have HN : Hid (V = (els == els')) := Lib.hid (by rw [HV.out, e1, e2, e3, e4, e5, e6, e7]; simp)
                go_wp2_with fail
                go_ret
                exact ⟨ret_bool HN.out.symm, (below_then HB.out HC2.out)⟩
theorem below_two (w : World) (x y : Obj) : Below w.heap.size w ((w.alloc x).alloc y) :=
  ((Below.refl _ _).alloc (Nat.le_refl _) _).alloc (by simp) _
set_option maxRecDepth 100000 in
set_option maxHeartbeats 4000000 in
theorem equalS_any (v1 v2 : Value) (L M : List Stm) (w : World) (h1 : ReadSt w v1 L) (h2 : ReadSt w v2 M) (hl : L.length ≤ 10000) (hsm : ∀ x ∈ L, SmallS x) :
    Calls Tryz.prog 37 #[v1, v2, .func (.func 38) #[] #[]] w (TellsB (sameSt false L M) w) := by
  have HR1 := Lib.hid h1
  have HR2 := Lib.hid h2
  have HSM := Lib.hid hsm
  obtain ⟨A, c, rfl, hc, hm1, hr1⟩ := h1
  obtain ⟨A', c', rfl, hc', hm2, hr2⟩ := h2
  clear hr1 hr2 hsm
  by_cases hL : L.length = M.length
  · rw [← hL] at HR2 hc' ⊢
    have HL := Lib.hid hL
    have HM := Lib.hid (show ∀ k, k < L.length → k < M.length by rw [hL]; exact fun _ h => h)
    clear hL
    go_enter Tryz.func37, Tryz.ntmps37
    go_wp2_with fail
    go_loopw [17] (fun i wr => ∃ k : Nat, k ≤ L.length ∧ i = .int .i64 k ∧ Below w.heap.size w wr ∧ sameG (stmEq false) (L.take k) (M.take k) = true) (fun i _ => L.length - (intOf i).toNat)
    case atStart => exact ⟨0, Nat.zero_le _, rfl, Below.refl _ _, rfl⟩
    case round =>
      obtain ⟨k, hk, rfl, hbel, hs⟩ := hrel
      have HS := Lib.hid hs
      have HB := Lib.hid hbel
      have hsz := hbel.size
      clear hs
      by_cases hlt : k < L.length
      · have hkm := HM.out k hlt
        have ha : L[k]? = some L[k] := List.getElem?_eq_getElem hlt
        have hb : M[k]? = some (M[k]'hkm) := List.getElem?_eq_getElem hkm
        generalize L[k] = a at *
        generalize M[k]'hkm = b at *
        have HSA := Lib.hid (HSM.out a (List.mem_of_getElem? ha))
        obtain ⟨A2, c2, hv, _, _, hr⟩ := HR1.out.on hbel
        obtain ⟨rfl, _, rfl⟩ : A = A2 ∧ True ∧ c = c2 := by simpa using hv
        obtain ⟨A2', c2', hv', _, _, hr'⟩ := HR2.out.on hbel
        obtain ⟨rfl, rfl⟩ : A' = A2' ∧ c' = c2' := by simp only [Value.slice.injEq] at hv'; exact ⟨hv'.1, hv'.2.2⟩
        obtain ⟨g, o, AE, nE, cE, AF, nF, cF, rfl, h9⟩ := hr k a ha
        obtain ⟨g', o', BE, mE, dE, BF, mF, dF, rfl, k9⟩ := hr' k b hb
        obtain ⟨hg, x0, x1, x2, x3, x4, x5, x6, x7, x8, re, rf⟩ := h9
        obtain ⟨hg', y0, y1, y2, y3, y4, y5, y6, y7, y8, qe, qf⟩ := k9
        have RE := Lib.hid re
        have RF := Lib.hid rf
        have QE := Lib.hid qe
        have QF := Lib.hid qf
        have HN := Lib.hid (fun h => sameG_no (q := stmEq false) ha hb h)
        have HY := Lib.hid (sameG_succ (q := stmEq false) ha hb)
        clear ha hb hr hr' hv hv' hbel re rf qe qf
        cases e1 : stmEq false a b with
        | false =>
          have HE := Lib.hid e1
          clear e1
          go_wp2_with fail
          refine (alike_any a b (.slice AE nE cE) (.slice AF nF cF) (.slice BE mE dE) (.slice BF mF dF) _ (RE.out.on (below_two _ _ _)) (RF.out.on (below_two _ _ _)) (QE.out.on (below_two _ _ _)) (QF.out.on (below_two _ _ _)) HSA.out).mono ?_
          rw [HE.out]
          rintro e w1 ⟨rfl, hb⟩
          have HB2 := Lib.hid (((HB.out.alloc hsz _).alloc (by simp; omega) _).trans (hb.mono (by simp; omega)))
          clear hb
          go_wp2_with fail
          go_ret
          exact ⟨ret_bool (HN.out HE.out).symm, HB2.out⟩
        | true =>
          have HE := Lib.hid e1
          clear e1
          go_wp2_with fail
          refine (alike_any a b (.slice AE nE cE) (.slice AF nF cF) (.slice BE mE dE) (.slice BF mF dF) _ (RE.out.on (below_two _ _ _)) (RF.out.on (below_two _ _ _)) (QE.out.on (below_two _ _ _)) (QF.out.on (below_two _ _ _)) HSA.out).mono ?_
          rw [HE.out]
          rintro e w1 ⟨rfl, hb⟩
          have HB2 := Lib.hid (((HB.out.alloc hsz _).alloc (by simp; omega) _).trans (hb.mono (by simp; omega)))
          clear hb
          go_wp2_with fail
          go_roundw
          case rel => exact ⟨k + 1, by omega, by go_num, HB2.out, by rw [HY.out, HS.out, HE.out]; rfl⟩
          case measure => simp [intOf]; omega
      · have HQ := Lib.hid (sameG_all (q := stmEq false) (by omega) HL.out HS.out)
        clear hbel
        go_wp2_with fail
        go_ret
        exact ⟨ret_bool HQ.out.symm, HB.out⟩
  · have HQ := Lib.hid (sameG_len (q := stmEq false) hL)
    have hd : ((L.length : Int) != (M.length : Int)) = true := by simp; omega
    clear hL
    go_enter Tryz.func37, Tryz.ntmps37
    go_wp2_with fail
    go_ret
    exact ⟨ret_bool HQ.out.symm, Below.refl _ _⟩
theorem ssame_any (v1 v2 : Value) (L M : List Stm) (w : World) (h1 : ReadSt w v1 L) (h2 : ReadSt w v2 M) (hl : L.length ≤ 10000) (hsm : ∀ x ∈ L, SmallS x) : Calls Tryz.prog 24 #[v1, v2] w (TellsB (sameSt false L M) w) := by
  have HR1 := Lib.hid h1
  have HR2 := Lib.hid h2
  clear h1 h2
  go_enter Tryz.func24, Tryz.ntmps24
  go_wp2_with fail
  refine (equalS_any v1 v2 L M _ HR1.out HR2.out hl hsm).mono ?_
  rintro e w1 ⟨rfl, hb⟩
  go_wp2_with fail
  go_ret
  exact ⟨rfl, hb⟩
end Go.Proofs.YtpeohfgadnfnpaaGreatDoor
/-
  DERIVED. Layer 3: a box of four cells.
-/
namespace Go.Proofs.YtpeohfgadnfnpaaGreatDoor
open Go.RowKit

def Box (w : World) (b : Nat) (a0 a1 a2 a3 : Value) : Prop := w.heap[b]? = some (.cells #[a0, a1, a2, a3] 52 (0, 0))
theorem Box.lt {w : World} {b : Nat} {a0 a1 a2 a3 : Value} (h : Box w b a0 a1 a2 a3) : b < w.heap.size := (Array.getElem?_eq_some_iff.1 h).1
theorem Box.cells {w : World} {b : Nat} {a0 a1 a2 a3 : Value} (h : Box w b a0 a1 a2 a3) :
    w.cell? ⟨b, 0, none⟩ = some a0 ∧ w.cell? ⟨b, 1, none⟩ = some a1 ∧ w.cell? ⟨b, 2, none⟩ = some a2 ∧ w.cell? ⟨b, 3, none⟩ = some a3 :=
  ⟨cell_of_row w b 0 _ 52 (0, 0) h, cell_of_row w b 1 _ 52 (0, 0) h, cell_of_row w b 2 _ 52 (0, 0) h, cell_of_row w b 3 _ 52 (0, 0) h⟩
theorem Box.free {w : World} {b : Nat} {a0 a1 a2 a3 : Value} (h : Box w b a0 a1 a2 a3) (j : Nat) : w.frozen? ⟨b, j, none⟩ = false := by
  unfold Box at h
  simp [World.frozen?, h]
theorem Box.new (w : World) (a0 a1 a2 a3 : Value) : Box (w.alloc (.cells #[a0, a1, a2, a3] 52)) w.heap.size a0 a1 a2 a3 := heap_alloc_new w _
theorem Box.on {w w' : World} {B b : Nat} {a0 a1 a2 a3 : Value} (h : Box w b a0 a1 a2 a3) (hb : Below B w w') (hB : b < B) : Box w' b a0 a1 a2 a3 := (hb.block b hB).trans h
theorem Box.draws {w : World} {b : Nat} {a0 a1 a2 a3 : Value} (h : Box w b a0 a1 a2 a3) (n : Nat) : Box (w.drewN n) b a0 a1 a2 a3 := h
theorem Box.set0 {w : World} {b : Nat} {a0 a1 a2 a3 : Value} (h : Box w b a0 a1 a2 a3) (u : Value) : Box (w.setCell ⟨b, 0, none⟩ u) b u a1 a2 a3 := by
  unfold Box at *; simp [World.setCell, Array.getElem?_modify, h]
theorem Box.set1 {w : World} {b : Nat} {a0 a1 a2 a3 : Value} (h : Box w b a0 a1 a2 a3) (u : Value) : Box (w.setCell ⟨b, 1, none⟩ u) b a0 u a2 a3 := by
  unfold Box at *; simp [World.setCell, Array.getElem?_modify, h]
theorem Box.set2 {w : World} {b : Nat} {a0 a1 a2 a3 : Value} (h : Box w b a0 a1 a2 a3) (u : Value) : Box (w.setCell ⟨b, 2, none⟩ u) b a0 a1 u a3 := by
  unfold Box at *; simp [World.setCell, Array.getElem?_modify, h]
theorem size_set (w : World) (p : Addr) (u : Value) : (w.setCell p u).heap.size = w.heap.size := by simp [World.setCell]
end Go.Proofs.YtpeohfgadnfnpaaGreatDoor
