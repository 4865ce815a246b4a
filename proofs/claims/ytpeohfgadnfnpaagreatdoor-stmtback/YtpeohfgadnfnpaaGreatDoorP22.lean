/-
  DERIVED. Texts of the walk, packed: RFits, StMem.
-/
import Derived.Test.YtpeohfgadnfnpaaGreatDoorP11
import Derived.Test.YtpeohfgadnfnpaaGreatDoorP21
import Derived.Test.YtpeohfgadnfnpaaGreatDoorP10
import Derived.Deep.CutRange
/-
  DERIVED. Layer 4: the contract of the document's fits: has a statement just what its kind has?
-/
namespace Go.Proofs.YtpeohfgadnfnpaaGreatDoor
open Go.RowKit

/-- A statement as a value; what is small enough of one. -/
def stmV (x : Stm) (vE vF : Value) : Value := .agg #[.int .i64 x.kind, .string ⟨x.reg.toArray⟩, .string ⟨x.name.toArray⟩, vE, vF, .int .i64 x.n, .int .i64 x.body, .int .i64 x.els, .int .i64 x.pl]
def SmallS (x : Stm) : Prop := x.reg.length ≤ 100000 ∧ x.name.length ≤ 100000 ∧ x.e.length ≤ 10000 ∧ x.f.length ≤ 10000 ∧ SmallN x.e ∧ SmallN x.f
/-- A box of nine cells. -/
structure Nine (W : World) (g : Nat) (a b c d e f h i j : Value) : Prop where
  lt : g < W.heap.size
  c0 : W.cell? ⟨g, 0, none⟩ = some a
  c1 : W.cell? ⟨g, 1, none⟩ = some b
  c2 : W.cell? ⟨g, 2, none⟩ = some c
  c3 : W.cell? ⟨g, 3, none⟩ = some d
  c4 : W.cell? ⟨g, 4, none⟩ = some e
  c5 : W.cell? ⟨g, 5, none⟩ = some f
  c6 : W.cell? ⟨g, 6, none⟩ = some h
  c7 : W.cell? ⟨g, 7, none⟩ = some i
  c8 : W.cell? ⟨g, 8, none⟩ = some j
theorem nine_new (w : World) (a b c d e f h i j : Value) (t : TypeId) : Nine (w.alloc (.cells #[a, b, c, d, e, f, h, i, j] t)) w.heap.size a b c d e f h i j := ⟨by simp, by simp, by simp, by simp, by simp, by simp, by simp, by simp, by simp, by simp⟩
theorem Nine.on {W W' : World} {g : Nat} {a b c d e f h i j : Value} (k : Nine W g a b c d e f h i j) (hb : Below W.heap.size W W') : Nine W' g a b c d e f h i j := by
  obtain ⟨lt, c0, c1, c2, c3, c4, c5, c6, c7, c8⟩ := k
  have e : ∀ q, W'.cell? ⟨g, q, none⟩ = W.cell? ⟨g, q, none⟩ := fun q => hb.cell (p := ⟨g, q, none⟩) lt
  exact ⟨Nat.lt_of_lt_of_le lt hb.size, by rw [e, c0], by rw [e, c1], by rw [e, c2], by rw [e, c3], by rw [e, c4], by rw [e, c5], by rw [e, c6], by rw [e, c7], by rw [e, c8]⟩

theorem rname_l (l : List UInt8) (w : World) (h : l.length ≤ 100000) : Calls Tryz.prog 57 #[.string ⟨l.toArray⟩] w (TellsB (nameB l) w) := by
  have := rname_any ⟨l.toArray⟩ w (by show l.toArray.size ≤ 100000; simpa using h)
  simpa using this
theorem ramong_114 (k : Int) (w : World) : Calls Tryz.prog 56 #[.string ⟨(hasL k).toArray⟩, .int .u8 114] w (Tells (hasC k 114) w) := ramong_has k 114 w
theorem ramong_110 (k : Int) (w : World) : Calls Tryz.prog 56 #[.string ⟨(hasL k).toArray⟩, .int .u8 110] w (Tells (hasC k 110) w) := ramong_has k 110 w
theorem ramong_101 (k : Int) (w : World) : Calls Tryz.prog 56 #[.string ⟨(hasL k).toArray⟩, .int .u8 101] w (Tells (hasC k 101) w) := ramong_has k 101 w
theorem ramong_102 (k : Int) (w : World) : Calls Tryz.prog 56 #[.string ⟨(hasL k).toArray⟩, .int .u8 102] w (Tells (hasC k 102) w) := ramong_has k 102 w
theorem ramong_107 (k : Int) (w : World) : Calls Tryz.prog 56 #[.string ⟨(hasL k).toArray⟩, .int .u8 107] w (Tells (hasC k 107) w) := ramong_has k 107 w
theorem name_nonempty {l : List UInt8} (h : nameB l = true) : l.isEmpty = false := by
  cases l with
  | nil => exact absurd h (by decide)
  | cons c m => rfl
theorem right_nonempty {l : List Nod} (h : rightL l = true) : l.isEmpty = false := by
  cases l with
  | nil => exact absurd h (by decide)
  | cons c m => rfl

set_option maxRecDepth 100000 in
set_option maxHeartbeats 8000000 in
theorem rfits_any (x : Stm) (vE vF : Value) (w : World) (hE : ReadN w vE x.e) (hF : ReadN w vF x.f) (hs : SmallS x) : Calls Tryz.prog 33 #[stmV x vE vF] w (TellsB (fitS x) w) := by
  obtain ⟨k, reg, name, e, f, n, body, els, pl⟩ := x
  unfold stmV
  simp only
  obtain ⟨s1, s2, s3, s4, s5, s6⟩ := hs
  have HE := Lib.hid hE
  have HF := Lib.hid hF
  have S5 := Lib.hid s5
  have S6 := Lib.hid s6
  obtain ⟨AE, cE, rfl, _⟩ := hE
  obtain ⟨AF, cF, rfl, _⟩ := hF
  clear s5 s6
  simp only at s1 s2 s3 s4
  by_cases hk : 1 ≤ k ∧ k ≤ 14 ∧ 0 ≤ pl ∧ pl ≤ 4000
  · obtain ⟨k1, k2, k3, k4⟩ := hk
    have HV : Hid (fitS ⟨k, reg, name, e, f, n, body, els, pl⟩ = ((if hasC k 114 then nameB reg else reg.isEmpty) && (if hasC k 110 then nameB name else name.isEmpty) && (if hasC k 101 then rightL e else e.isEmpty) && (if hasC k 102 then rightL f else f.isEmpty) && (if hasC k 107 then decide (1 ≤ n) && decide (n ≤ 8) else decide (n = 0)))) := Lib.hid (by unfold fitS; simp [k1, k2, k3, k4])
    obtain ⟨V, hV⟩ : ∃ V, fitS ⟨k, reg, name, e, f, n, body, els, pl⟩ = V := ⟨_, rfl⟩
    rw [hV]
    rw [hV] at HV
    clear hV
    go_enter Tryz.func33, Tryz.ntmps33
    go_wp2_with fail
    refine (rhas_any k _).mono ?_
    rintro e1 w1 ⟨rfl, hb1⟩
    have N1 := Lib.hid ((nine_new w (.int .i64 k) (.string ⟨reg.toArray⟩) (.string ⟨name.toArray⟩) (.slice AE e.length cE) (.slice AF f.length cF) (.int .i64 n) (.int .i64 body) (.int .i64 els) (.int .i64 pl) 31).on hb1)
    have HB : Hid (Below w.heap.size w w1) := Lib.hid (((Below.refl _ _).alloc (Nat.le_refl _) _).trans (hb1.mono (by simp)))
    have HE1 := Lib.hid (HE.out.on HB.out)
    have HF1 := Lib.hid (HF.out.on HB.out)
    clear hb1 HE HF
    go_wp2_with fail
    refine (ramong_114 k _).mono ?_
    rintro e1 w2 ⟨rfl, rfl⟩
    go_wp2_with fail
    refine (ramong_110 k _).mono ?_
    rintro e1 w2 ⟨rfl, rfl⟩
    go_wp2_with fail
    refine (ramong_101 k _).mono ?_
    rintro e1 w2 ⟨rfl, rfl⟩
    go_wp2_with fail
    refine (ramong_102 k _).mono ?_
    rintro e1 w2 ⟨rfl, rfl⟩
    generalize hasC k 114 = r at *
    generalize hasC k 110 = m at *
    generalize hasC k 101 = a at *
    generalize hasC k 102 = b at *
    go_upto_region 5 with (fail)
    go_cut [66] from 37 to 66 (fun c wx => c = .bool (!((if r then nameB reg else reg.isEmpty) && (if m then nameB name else name.isEmpty))) ∧ Below w1.heap.size w1 wx)
    case first =>
      obtain ⟨z, z0, z1, z2, z3, z4, z5, z6, z7, z8⟩ := N1.out
      cases hq : nameB reg with
      | true =>
        have hne := name_nonempty hq
        cases r with
        | false =>
          go_wp2_with fail
          refine (rname_l _ _ s1).mono ?_
          rw [hq]
          rintro e1 w2 ⟨rfl, hb⟩
          go_wp2_with fail
          go_meet
          case rel => exact ⟨by simp [hne], hb⟩
        | true =>
          go_wp2_with fail
          refine (rname_l _ _ s1).mono ?_
          rw [hq]
          rintro e1 w2 ⟨rfl, hb⟩
          have y1 := (N1.out.on hb).c1
          have y2 := (N1.out.on hb).c2
          clear z z0 z1 z2 z3 z4 z5 z6 z7 z8
          cases hq2 : nameB name with
          | true =>
            have hne2 := name_nonempty hq2
            cases m with
            | false =>
              go_wp2_with fail
              refine (rname_l _ _ s2).mono ?_
              rw [hq2]
              rintro e1 w3 ⟨rfl, hb2⟩
              go_wp2_with fail
              go_meet
              case rel => exact ⟨by simp [hne2], below_then hb hb2⟩
            | true =>
              go_wp2_with fail
              refine (rname_l _ _ s2).mono ?_
              rw [hq2]
              rintro e1 w3 ⟨rfl, hb2⟩
              go_wp2_with fail
              go_meet
              case rel => exact ⟨by simp [hq, hq2], below_then hb hb2⟩
          | false =>
            cases m with
            | true =>
              go_wp2_with fail
              refine (rname_l _ _ s2).mono ?_
              rw [hq2]
              rintro e1 w3 ⟨rfl, hb2⟩
              go_wp2_with fail
              go_meet
              case rel => exact ⟨by simp [hq2], below_then hb hb2⟩
            | false =>
              cases name with
              | nil =>
                go_wp2_with fail
                refine (rname_l _ _ s2).mono ?_
                rw [hq2]
                rintro e1 w3 ⟨rfl, hb2⟩
                have x2 := (N1.out.on (below_then hb hb2)).c2
                go_wp2_with fail
                go_meet
                case rel => exact ⟨by simp [hq], below_then hb hb2⟩
              | cons c2 t2 =>
                go_wp2_with fail
                refine (rname_l _ _ s2).mono ?_
                rw [hq2]
                rintro e1 w3 ⟨rfl, hb2⟩
                have x2 := (N1.out.on (below_then hb hb2)).c2
                go_wp2_with fail
                go_meet
                case rel => exact ⟨by simp, below_then hb hb2⟩
      | false =>
        cases r with
        | true =>
          go_wp2_with fail
          refine (rname_l _ _ s1).mono ?_
          rw [hq]
          rintro e1 w2 ⟨rfl, hb⟩
          go_wp2_with fail
          go_meet
          case rel => exact ⟨by simp [hq], hb⟩
        | false =>
          cases reg with
          | nil =>
            go_wp2_with fail
            refine (rname_l _ _ s1).mono ?_
            rw [hq]
            rintro e1 w2 ⟨rfl, hb⟩
            have y1 := (N1.out.on hb).c1
            have y2 := (N1.out.on hb).c2
            clear z z0 z1 z2 z3 z4 z5 z6 z7 z8
            cases hq2 : nameB name with
            | true =>
              have hne2 := name_nonempty hq2
              cases m with
              | false =>
                go_wp2_with fail
                refine (rname_l _ _ s2).mono ?_
                rw [hq2]
                rintro e1 w3 ⟨rfl, hb2⟩
                go_wp2_with fail
                go_meet
                case rel => exact ⟨by simp [hne2], below_then hb hb2⟩
              | true =>
                go_wp2_with fail
                refine (rname_l _ _ s2).mono ?_
                rw [hq2]
                rintro e1 w3 ⟨rfl, hb2⟩
                go_wp2_with fail
                go_meet
                case rel => exact ⟨by simp [hq2], below_then hb hb2⟩
            | false =>
              cases m with
              | true =>
                go_wp2_with fail
                refine (rname_l _ _ s2).mono ?_
                rw [hq2]
                rintro e1 w3 ⟨rfl, hb2⟩
                go_wp2_with fail
                go_meet
                case rel => exact ⟨by simp [hq2], below_then hb hb2⟩
              | false =>
                cases name with
                | nil =>
                  go_wp2_with fail
                  refine (rname_l _ _ s2).mono ?_
                  rw [hq2]
                  rintro e1 w3 ⟨rfl, hb2⟩
                  have x2 := (N1.out.on (below_then hb hb2)).c2
                  go_wp2_with fail
                  go_meet
                  case rel => exact ⟨by simp, below_then hb hb2⟩
                | cons c2 t2 =>
                  go_wp2_with fail
                  refine (rname_l _ _ s2).mono ?_
                  rw [hq2]
                  rintro e1 w3 ⟨rfl, hb2⟩
                  have x2 := (N1.out.on (below_then hb hb2)).c2
                  go_wp2_with fail
                  go_meet
                  case rel => exact ⟨by simp, below_then hb hb2⟩
          | cons c1 t1 =>
            go_wp2_with fail
            refine (rname_l _ _ s1).mono ?_
            rw [hq]
            rintro e1 w2 ⟨rfl, hb⟩
            have y1 := (N1.out.on hb).c1
            have y2 := (N1.out.on hb).c2
            clear z z0 z1 z2 z3 z4 z5 z6 z7 z8
            go_wp2_with fail
            go_meet
            case rel => exact ⟨by simp, hb⟩
    case rest =>
      obtain ⟨rfl, hbc⟩ := hcut
      have NC := Lib.hid (N1.out.on hbc)
      have HBC := Lib.hid (below_then HB.out hbc)
      have HEC := Lib.hid (HE1.out.on hbc)
      have HFC := Lib.hid (HF1.out.on hbc)
      clear hbc N1 HB HE1 HF1
      generalize ((if r = true then nameB reg else reg.isEmpty) && (if m = true then nameB name else name.isEmpty)) = q1 at *
      cases q1 with
      | false =>
        have HV' : Hid (V = false) := Lib.hid (by rw [HV.out]; rfl)
        go_wp2_with fail
        go_ret
        exact ⟨ret_bool HV'.out.symm, HBC.out⟩
      | true =>
      go_upto_region 7 with (fail)
      go_cut [98] from 67 to 98 (fun c wx => c = .bool (!((if a then rightL e else e.isEmpty) && (if b then rightL f else f.isEmpty))) ∧ Below wc.heap.size wc wx)
      case first =>
        obtain ⟨z, z0, z1, z2, z3, z4, z5, z6, z7, z8⟩ := NC.out
        cases hq : rightL e with
        | true =>
          have hne := right_nonempty hq
          cases a with
          | false =>
            go_wp2_with fail
            refine (rright_any _ _ _ HEC.out s3 S5.out).mono ?_
            rw [hq]
            rintro e1 w2 ⟨rfl, hb⟩
            go_wp2_with fail
            go_meet
            case rel => exact ⟨by simp [hne], hb⟩
          | true =>
            go_wp2_with fail
            refine (rright_any _ _ _ HEC.out s3 S5.out).mono ?_
            rw [hq]
            rintro e1 w2 ⟨rfl, hb⟩
            have y3 := (NC.out.on hb).c3
            have y4 := (NC.out.on hb).c4
            clear z z0 z1 z2 z3 z4 z5 z6 z7 z8
            cases hq2 : rightL f with
            | true =>
              have hne2 := right_nonempty hq2
              cases b with
              | false =>
                go_wp2_with fail
                refine (rright_any _ _ _ (HFC.out.on hb) s4 S6.out).mono ?_
                rw [hq2]
                rintro e1 w3 ⟨rfl, hb2⟩
                go_wp2_with fail
                go_meet
                case rel => exact ⟨by simp [hne2], below_then hb hb2⟩
              | true =>
                go_wp2_with fail
                refine (rright_any _ _ _ (HFC.out.on hb) s4 S6.out).mono ?_
                rw [hq2]
                rintro e1 w3 ⟨rfl, hb2⟩
                go_wp2_with fail
                go_meet
                case rel => exact ⟨by simp [hq, hq2], below_then hb hb2⟩
            | false =>
              cases b with
              | true =>
                go_wp2_with fail
                refine (rright_any _ _ _ (HFC.out.on hb) s4 S6.out).mono ?_
                rw [hq2]
                rintro e1 w3 ⟨rfl, hb2⟩
                go_wp2_with fail
                go_meet
                case rel => exact ⟨by simp [hq2], below_then hb hb2⟩
              | false =>
                cases f with
                | nil =>
                  go_wp2_with fail
                  refine (rright_any _ _ _ (HFC.out.on hb) s4 S6.out).mono ?_
                  rw [hq2]
                  rintro e1 w3 ⟨rfl, hb2⟩
                  have x4 := (NC.out.on (below_then hb hb2)).c4
                  go_wp2_with fail
                  go_meet
                  case rel => exact ⟨by simp [hq], below_then hb hb2⟩
                | cons c2 t2 =>
                  go_wp2_with fail
                  refine (rright_any _ _ _ (HFC.out.on hb) s4 S6.out).mono ?_
                  rw [hq2]
                  rintro e1 w3 ⟨rfl, hb2⟩
                  have x4 := (NC.out.on (below_then hb hb2)).c4
                  go_wp2_with fail
                  go_meet
                  case rel => exact ⟨by simp, below_then hb hb2⟩
        | false =>
          cases a with
          | true =>
            go_wp2_with fail
            refine (rright_any _ _ _ HEC.out s3 S5.out).mono ?_
            rw [hq]
            rintro e1 w2 ⟨rfl, hb⟩
            go_wp2_with fail
            go_meet
            case rel => exact ⟨by simp [hq], hb⟩
          | false =>
            cases e with
            | nil =>
              go_wp2_with fail
              refine (rright_any _ _ _ HEC.out s3 S5.out).mono ?_
              rw [hq]
              rintro e1 w2 ⟨rfl, hb⟩
              have y3 := (NC.out.on hb).c3
              have y4 := (NC.out.on hb).c4
              clear z z0 z1 z2 z3 z4 z5 z6 z7 z8
              cases hq2 : rightL f with
              | true =>
                have hne2 := right_nonempty hq2
                cases b with
                | false =>
                  go_wp2_with fail
                  refine (rright_any _ _ _ (HFC.out.on hb) s4 S6.out).mono ?_
                  rw [hq2]
                  rintro e1 w3 ⟨rfl, hb2⟩
                  go_wp2_with fail
                  go_meet
                  case rel => exact ⟨by simp [hne2], below_then hb hb2⟩
                | true =>
                  go_wp2_with fail
                  refine (rright_any _ _ _ (HFC.out.on hb) s4 S6.out).mono ?_
                  rw [hq2]
                  rintro e1 w3 ⟨rfl, hb2⟩
                  go_wp2_with fail
                  go_meet
                  case rel => exact ⟨by simp [hq2], below_then hb hb2⟩
              | false =>
                cases b with
                | true =>
                  go_wp2_with fail
                  refine (rright_any _ _ _ (HFC.out.on hb) s4 S6.out).mono ?_
                  rw [hq2]
                  rintro e1 w3 ⟨rfl, hb2⟩
                  go_wp2_with fail
                  go_meet
                  case rel => exact ⟨by simp [hq2], below_then hb hb2⟩
                | false =>
                  cases f with
                  | nil =>
                    go_wp2_with fail
                    refine (rright_any _ _ _ (HFC.out.on hb) s4 S6.out).mono ?_
                    rw [hq2]
                    rintro e1 w3 ⟨rfl, hb2⟩
                    have x4 := (NC.out.on (below_then hb hb2)).c4
                    go_wp2_with fail
                    go_meet
                    case rel => exact ⟨by simp, below_then hb hb2⟩
                  | cons c2 t2 =>
                    go_wp2_with fail
                    refine (rright_any _ _ _ (HFC.out.on hb) s4 S6.out).mono ?_
                    rw [hq2]
                    rintro e1 w3 ⟨rfl, hb2⟩
                    have x4 := (NC.out.on (below_then hb hb2)).c4
                    go_wp2_with fail
                    go_meet
                    case rel => exact ⟨by simp, below_then hb hb2⟩
            | cons c1 t1 =>
              go_wp2_with fail
              refine (rright_any _ _ _ HEC.out s3 S5.out).mono ?_
              rw [hq]
              rintro e1 w2 ⟨rfl, hb⟩
              have y3 := (NC.out.on hb).c3
              have y4 := (NC.out.on hb).c4
              clear z z0 z1 z2 z3 z4 z5 z6 z7 z8
              go_wp2_with fail
              go_meet
              case rel => exact ⟨by simp, hb⟩
      case rest =>
        obtain ⟨rfl, hbd⟩ := hcut
        have ND := Lib.hid (NC.out.on hbd)
        have HBD := Lib.hid (below_then HBC.out hbd)
        clear hbd NC HBC HEC HFC
        have HV2 : Hid (V = (((if a = true then rightL e else e.isEmpty) && (if b = true then rightL f else f.isEmpty)) && (if hasC k 107 then decide (1 ≤ n) && decide (n ≤ 8) else decide (n = 0)))) := Lib.hid (by rw [HV.out, Bool.true_and])
        clear HV
        generalize ((if a = true then rightL e else e.isEmpty) && (if b = true then rightL f else f.isEmpty)) = q2 at *
        cases q2 with
        | false =>
          have HV' : Hid (V = false) := Lib.hid (by rw [HV2.out]; rfl)
          go_wp2_with fail
          go_ret
          exact ⟨ret_bool HV'.out.symm, HBD.out⟩
        | true =>
          go_wp2_with fail
          refine (ramong_107 k _).mono ?_
          generalize hasC k 107 = t at *
          rintro e1 w9 ⟨rfl, rfl⟩
          obtain ⟨z, z0, z1, z2, z3, z4, z5, z6, z7, z8⟩ := ND.out
          cases t with
          | false =>
            have HV' : Hid (V = (n == 0)) := Lib.hid (by rw [HV2.out]; exact Bool.eq_iff_iff.2 (by simp))
            go_wp2_with fail
            go_ret
            exact ⟨ret_bool HV'.out.symm, HBD.out⟩
          | true =>
            by_cases hn : 1 ≤ n
            · have HV' : Hid (V = decide (n ≤ 8)) := Lib.hid (by rw [HV2.out]; simp [hn])
              go_wp2_with fail
              go_ret
              exact ⟨ret_bool HV'.out.symm, HBD.out⟩
            · have HV' : Hid (V = false) := Lib.hid (by rw [HV2.out]; simp [hn])
              go_wp2_with fail
              go_ret
              exact ⟨ret_bool HV'.out.symm, HBD.out⟩
  · have HV : Hid (fitS ⟨k, reg, name, e, f, n, body, els, pl⟩ = false) := Lib.hid (by
      unfold fitS
      simp only
      cases h : (decide (1 ≤ k) && decide (k ≤ 14) && decide (0 ≤ pl) && decide (pl ≤ 4000)) with
      | true =>
        simp only [Bool.and_eq_true, decide_eq_true_eq] at h
        exact absurd ⟨h.1.1.1, h.1.1.2, h.1.2, h.2⟩ hk
      | false => rfl)
    rw [HV.out]
    have hb := (Below.refl w.heap.size w).alloc (Nat.le_refl _) (.cells #[.int .i64 k, .string ⟨reg.toArray⟩, .string ⟨name.toArray⟩, .slice AE e.length cE, .slice AF f.length cF, .int .i64 n, .int .i64 body, .int .i64 els, .int .i64 pl] 31)
    have HB := Lib.hid hb
    clear hb HV HE HF S5 S6
    by_cases k1 : k < 1
    · clear hk
      go_enter Tryz.func33, Tryz.ntmps33
      go_wp2_with fail
      go_ret
      exact ⟨rfl, HB.out⟩
    · by_cases k2 : 14 < k
      · clear hk
        go_enter Tryz.func33, Tryz.ntmps33
        go_wp2_with fail
        go_ret
        exact ⟨rfl, HB.out⟩
      · by_cases k3 : pl < 0
        · clear hk
          go_enter Tryz.func33, Tryz.ntmps33
          go_wp2_with fail
          go_ret
          exact ⟨rfl, HB.out⟩
        · have k4 : 4000 < pl := by omega
          clear hk
          go_enter Tryz.func33, Tryz.ntmps33
          go_wp2_with fail
          go_ret
          exact ⟨rfl, HB.out⟩
end Go.Proofs.YtpeohfgadnfnpaaGreatDoor
/-
  DERIVED. Layer 4: slices of statements that are read; how deep statements are, step by step.
-/
namespace Go.Proofs.YtpeohfgadnfnpaaGreatDoor
open Go.RowKit

/-- A statement's nine cells. -/
structure At9 (w : World) (g o : Nat) (t : Stm) (AE : Option Addr) (nE cE : Nat) (AF : Option Addr) (nF cF : Nat) : Prop where
  lt : g < w.heap.size
  c0 : w.cell? ⟨g, o, none⟩ = some (.int .i64 t.kind)
  c1 : w.cell? ⟨g, o + 1, none⟩ = some (.string ⟨t.reg.toArray⟩)
  c2 : w.cell? ⟨g, o + 2, none⟩ = some (.string ⟨t.name.toArray⟩)
  c3 : w.cell? ⟨g, o + 3, none⟩ = some (.slice AE nE cE)
  c4 : w.cell? ⟨g, o + 4, none⟩ = some (.slice AF nF cF)
  c5 : w.cell? ⟨g, o + 5, none⟩ = some (.int .i64 t.n)
  c6 : w.cell? ⟨g, o + 6, none⟩ = some (.int .i64 t.body)
  c7 : w.cell? ⟨g, o + 7, none⟩ = some (.int .i64 t.els)
  c8 : w.cell? ⟨g, o + 8, none⟩ = some (.int .i64 t.pl)
  re : ReadN w (.slice AE nE cE) t.e
  rf : ReadN w (.slice AF nF cF) t.f
theorem At9.on {w w' : World} {g o : Nat} {t : Stm} {AE : Option Addr} {nE cE : Nat} {AF : Option Addr} {nF cF : Nat} (h : At9 w g o t AE nE cE AF nF cF) (hb : Below w.heap.size w w') : At9 w' g o t AE nE cE AF nF cF := by
  obtain ⟨lt, c0, c1, c2, c3, c4, c5, c6, c7, c8, re, rf⟩ := h
  have e : ∀ q, w'.cell? ⟨g, q, none⟩ = w.cell? ⟨g, q, none⟩ := fun q => hb.cell (p := ⟨g, q, none⟩) lt
  exact ⟨Nat.lt_of_lt_of_le lt hb.size, by rw [e, c0], by rw [e, c1], by rw [e, c2], by rw [e, c3], by rw [e, c4], by rw [e, c5], by rw [e, c6], by rw [e, c7], by rw [e, c8], re.on hb, rf.on hb⟩
/-- A slice that reads as these statements, and lies in old memory. -/
def ReadSt (w : World) (v : Value) (L : List Stm) : Prop :=
  ∃ A c, v = .slice A L.length c ∧ L.length ≤ c ∧ c ≤ maxLen ∧ (∀ i t, L[i]? = some t → ∃ g o AE nE cE AF nF cF, A = some ⟨g, o, none⟩ ∧ At9 w g (o + i * 9) t AE nE cE AF nF cF)
theorem ReadSt.on {w w' : World} {v : Value} {L : List Stm} (h : ReadSt w v L) (hb : Below w.heap.size w w') : ReadSt w' v L := by
  obtain ⟨A, c, hv, hc, hm, hr⟩ := h
  refine ⟨A, c, hv, hc, hm, fun i t hi => ?_⟩
  obtain ⟨g, o, AE, nE, cE, AF, nF, cF, hA, h9⟩ := hr i t hi
  exact ⟨g, o, AE, nE, cE, AF, nF, cF, hA, h9.on hb⟩
theorem ReadSt.part {w : World} {g o n c k j : Nat} {L : List Stm} (h : ReadSt w (.slice (some ⟨g, o, none⟩) n c) L) (hk : k ≤ j) (ht : j ≤ n) : ReadSt w (.slice (some ⟨g, o + k * 9, none⟩) (j - k) (c - k)) ((L.take j).drop k) := by
  obtain ⟨A, c', hv, hc, hm, hr⟩ := h
  simp only [Value.slice.injEq] at hv
  obtain ⟨rfl, rfl, rfl⟩ := hv
  refine ⟨_, _, by rw [List.length_drop, List.length_take, Nat.min_eq_left ht], by rw [List.length_drop, List.length_take, Nat.min_eq_left ht]; omega, by omega, fun i t hi => ?_⟩
  rw [List.getElem?_drop, List.getElem?_take] at hi
  split at hi
  · obtain ⟨g', o', AE, nE, cE, AF, nF, cF, hA, h9⟩ := hr (k + i) t hi
    simp only [Option.some.injEq, Addr.mk.injEq] at hA
    obtain ⟨rfl, rfl, _⟩ := hA
    rw [show o + (k + i) * 9 = o + k * 9 + i * 9 from by omega] at h9
    exact ⟨g, o + k * 9, AE, nE, cE, AF, nF, cF, rfl, h9⟩
  · cases hi
theorem readSt_nil (w : World) : ReadSt w (.slice none 0 0) [] := ⟨none, 0, rfl, Nat.le_refl _, Nat.zero_le _, fun i t h => by simp at h⟩

/-! ### How deep, step by step. -/
def inS (x : Stm) (l : Nat) : Nat := if x.kind = 12 then l + 1 else l
def stepOK (x : Stm) (l n : Nat) : Prop := headOK x n ∧ ¬ (x.kind = 13 ∧ l = 0)
instance (x : Stm) (l n : Nat) : Decidable (stepOK x l n) := inferInstanceAs (Decidable (_ ∧ ¬ _))
theorem treeS_cons (x : Stm) (r : List Stm) : treeS (x :: r) = if headOK x r.length then
      match treeS (bodyL x r), treeS (elseL x r), treeS (restL x r) with
      | some b, some e, some t => some (.cons x b e t)
      | _, _, _ => none
    else none := by
  show treeF (r.length + 1) (x :: r) = _
  unfold treeF
  split
  · rename_i h
    obtain ⟨h1, h2, h3⟩ := parts_len h
    have hh := h
    obtain ⟨g1, g2, _⟩ := hh
    rw [treeF_eq (by omega), treeF_eq (by omega), treeF_eq (by omega)]
    cases treeS (bodyL x r) <;> cases treeS (elseL x r) <;> cases treeS (restL x r) <;> rfl
  · rfl
theorem deepS_nil (l : Nat) : deepS l [] = some 0 := rfl
theorem deepS_bad {x : Stm} {r : List Stm} {l : Nat} (h : ¬ stepOK x l r.length) : deepS l (x :: r) = none := by
  unfold deepS
  rw [treeS_cons]
  by_cases hh : headOK x r.length
  · rw [if_pos hh]
    have hk : x.kind = 13 ∧ l = 0 := by
      by_cases hq : x.kind = 13 ∧ l = 0
      · exact hq
      · exact absurd ⟨hh, hq⟩ h
    cases treeS (bodyL x r) with
    | none => rfl
    | some b => cases treeS (elseL x r) with
      | none => rfl
      | some e => cases treeS (restL x r) with
        | none => rfl
        | some t => simp [Bk.brk, hk.1, hk.2]
  · rw [if_neg hh]
def comb3 (k : Int) : Option Nat → Option Nat → Option Nat → Option Nat
  | some a, some b, some c => some (max (if blkK k then max (a + 1) (b + 1) else 0) c)
  | _, _, _ => none
theorem comb_n1 (k : Int) (y z : Option Nat) : comb3 k none y z = none := by cases y <;> cases z <;> rfl
theorem comb_n2 (k : Int) (y z : Option Nat) : comb3 k y none z = none := by cases y <;> cases z <;> rfl
theorem comb_n3 (k : Int) (y z : Option Nat) : comb3 k y z none = none := by cases y <;> cases z <;> rfl
theorem comb_flat {k : Int} (h : ¬ blkK k) (z : Option Nat) : comb3 k (some 0) (some 0) z = z := by
  cases z with
  | none => rfl
  | some c => show some (max (if blkK k then max (0 + 1) (0 + 1) else 0) c) = some c; rw [if_neg h]; simp
theorem deepS_step {x : Stm} {r : List Stm} {l : Nat} (h : stepOK x l r.length) : deepS l (x :: r) = comb3 x.kind (deepS (inS x l) (bodyL x r)) (deepS (inS x l) (elseL x r)) (deepS l (restL x r)) := by
  unfold deepS
  rw [treeS_cons, if_pos h.1]
  cases treeS (bodyL x r) with
  | none => rw [comb_n1]
  | some b => cases treeS (elseL x r) with
    | none => rw [comb_n2]
    | some e => cases treeS (restL x r) with
      | none => rw [comb_n3]
      | some t =>
        have hk : (!decide (x.kind = 13) || decide (0 < l)) = true := by
          have := h.2
          by_cases h13 : x.kind = 13
          · simp [h13]; omega
          · simp [h13]
        simp only [Bk.brk, hk, Bool.true_and]
        unfold inS
        cases Bk.brk (if x.kind = 12 then l + 1 else l) b <;> cases Bk.brk (if x.kind = 12 then l + 1 else l) e <;> cases Bk.brk l t <;> rfl
def deepI (l : Nat) (L : List Stm) : Int := match deepS l L with
  | some d => d
  | none => -1
end Go.Proofs.YtpeohfgadnfnpaaGreatDoor
