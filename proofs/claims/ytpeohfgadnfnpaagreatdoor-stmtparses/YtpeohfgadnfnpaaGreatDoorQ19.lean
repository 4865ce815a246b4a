/-
  DERIVED. Texts of the walk, packed: RefRight, RFits.
-/
import Derived.Test.YtpeohfgadnfnpaaGreatDoorQ08
import Derived.Test.YtpeohfgadnfnpaaGreatDoorQ09
import Derived.Test.YtpeohfgadnfnpaaGreatDoorQ18
import Derived.Test.YtpeohfgadnfnpaaGreatDoorQ07
import Derived.Deep.CutRange
/-
  DERIVED. Layer 3: contract of the document's Right (leadlineref03).
-/
namespace Go.Proofs.YtpeohfgadnfnpaaGreatDoor
open Go.RowKit

theorem right_long {L : List Nod} (h : 40 < L.length) : rightL L = false := by
  unfold rightL; cases wholeT L with
  | none => rfl
  | some x => simp; omega
theorem right_not {L : List Nod} (h : endV L 0 ≠ L.length) : rightL L = false := by
  unfold rightL
  cases hw : wholeT L with
  | none => rfl
  | some x => exact absurd (end_whole hw) h
theorem right_bad {L : List Nod} (h : L.all nodOK = false) : rightL L = false := by
  unfold rightL; cases wholeT L with
  | none => rfl
  | some x => simp [h]

set_option maxRecDepth 100000 in
set_option maxHeartbeats 4000000 in
theorem rright_any (v : Value) (L : List Nod) (w : World) (h : ReadN w v L) (hl : L.length ≤ 10000) (hs : SmallN L) : Calls Tryz.prog 58 #[v] w (TellsB (rightL L) w) := by
  have HH := Lib.hid h
  have HS := Lib.hid hs
  obtain ⟨A, c, rfl, hc, hm, hr⟩ := h
  clear hr hs
  by_cases h40 : 40 < L.length
  · have HF := Lib.hid (right_long h40)
    have f1 : (40 : Int) < (L.length : Int) := by omega
    go_enter Tryz.func58, Tryz.ntmps58
    go_wp2_with fail
    go_ret
    exact ⟨ret_bool HF.out.symm, Below.refl _ _⟩
  · have f1 : ¬ (40 : Int) < (L.length : Int) := by omega
    have f2 : decide ((40 : Int) < (L.length : Int)) = false := by simp; omega
    have f3 : decide (40 < L.length) = false := by simp; omega
    by_cases he : endV L 0 = L.length
    · have HE := Lib.hid he
      clear he
      go_enter Tryz.func58, Tryz.ntmps58
      go_wp2_with fail
      refine (rend_any _ L 0 _ HH.out hl).mono ?_
      rw [HE.out]
      rintro e w' ⟨rfl, rfl⟩
      go_wp2_with fail
      go_loopw [3] (fun i wr => ∃ k : Nat, k ≤ L.length ∧ i = .int .i64 k ∧ (L.take k).all nodOK = true ∧ Below w.heap.size w wr) (fun i _ => L.length - (intOf i).toNat)
      case atStart => exact ⟨0, Nat.zero_le _, rfl, rfl, Below.refl _ _⟩
      case round =>
        obtain ⟨k, hk, rfl, hall, hbel⟩ := hrel
        have HB := Lib.hid hbel
        have HA := Lib.hid hall
        have hsz := hbel.size
        clear hall
        by_cases hlt : k < L.length
        · have hat : L[k]? = some L[k] := List.getElem?_eq_getElem hlt
          have hnm := HS.out _ (List.getElem_mem hlt)
          have HB2 : Hid (∀ o, Below w.heap.size w (wr.alloc o)) := Lib.hid (fun o => hbel.alloc hsz o)
          generalize L[k] = a at *
          obtain ⟨A', c', hv', _, _, hr⟩ := HH.out.on hbel
          obtain ⟨rfl, rfl⟩ : A = A' ∧ c = c' := by simp only [Value.slice.injEq] at hv'; exact ⟨hv'.1, hv'.2.2⟩
          obtain ⟨g, o, rfl, hg, x0, x1, x2, x3⟩ := hr k a hat
          have HW : Hid (nodOK a = false → rightL L = false) := Lib.hid (fun hp => right_bad (any_wrong hat hp))
          have HN : Hid (nodOK a = true → (L.take (k + 1)).all nodOK = true) := Lib.hid (fun hp => all_succN hat HA.out hp)
          clear hr hv' hat hbel
          obtain ⟨op, n, name, pl⟩ := a
          simp only at hnm x0 x1 x2 x3
          go_wp2_with fail
          all_goals first
            | (go_ret
               exact ⟨ret_bool (HW.out (by clear HW HN HB2 HB HA HS HH HE x0 x1 x2 x3; simp_all [nodOK]; try omega)).symm, HB2.out _⟩)
            | (go_roundw
               case rel => exact ⟨k + 1, by omega, by go_num, HN.out (by clear HW HN HB2 HB HA HS HH HE x0 x1 x2 x3; simp_all [nodOK]; try omega), HB2.out _⟩
               case measure => simp [intOf]; omega)
            | skip
          refine (rname_any ⟨name.toArray⟩ _ (by show name.toArray.size ≤ _; simpa using hnm)).mono ?_
          rw [show (ByteArray.mk name.toArray).data.toList = name from by simp]
          cases hnb : nameB name with
          | true =>
            rintro e w1 ⟨rfl, hb⟩
            have HB3 := Lib.hid (below_then (HB2.out _) hb)
            clear hb
            go_wp2_with fail
            go_roundw
            case rel => exact ⟨k + 1, by omega, by go_num, HN.out (by clear HW HN HB2 HB HA HS HH HE HB3 x0 x1 x2 x3; simp_all [nodOK]; try omega), HB3.out⟩
            case measure => simp [intOf]; omega
          | false =>
            rintro e w1 ⟨rfl, hb⟩
            have HB3 := Lib.hid (below_then (HB2.out _) hb)
            clear hb
            go_wp2_with fail
            go_ret
            exact ⟨ret_bool (HW.out (by clear HW HN HB2 HB HA HS HH HE HB3 x0 x1 x2 x3; simp_all [nodOK])).symm, HB3.out⟩
        · have hak : L.all nodOK = true := by
            have := HA.out
            rw [show k = L.length from by omega, List.take_length] at this
            exact this
          have HE2 := HE.out
          obtain ⟨x, hw⟩ : ∃ x, wholeT L = some x := by
            cases hw : wholeT L with
            | none => exact absurd HE2 (end_not hw)
            | some x => exact ⟨x, rfl⟩
          obtain ⟨hox, hfx⟩ := whole_some hw
          have HR : Hid (rightL L = decide (x.deep ≤ 12)) := Lib.hid (by
            rw [hfx, right_flat hox, ← hfx, hak, ← flat_len, ← hfx, show decide (L.length ≤ 40) = true from by simp; omega]; rfl)
          have hdz := deep_size x
          have hxl : x.size = L.length := by rw [hfx, flat_len]
          have HO := Lib.hid hox
          have HD : Hid (L.drop 0 = x.flat ++ []) := Lib.hid (by rw [← hfx]; simp)
          clear hak hw hox hfx hbel HE2
          go_wp2_with fail
          refine (rdeep_any x.size x _ L 0 [] _ (Nat.le_refl _) HO.out (HH.out.on HB.out) hl HD.out).mono ?_
          rintro e w' ⟨rfl, rfl⟩
          go_wp2_with fail
          go_ret
          exact ⟨ret_bool (by rw [HR.out]; simp; omega), HB.out⟩
    · have HF := Lib.hid (right_not he)
      have HE : Hid ((endV L 0 != (L.length : Int)) = true) := Lib.hid (by simpa using he)
      clear he
      go_enter Tryz.func58, Tryz.ntmps58
      go_wp2_with fail
      refine (rend_any _ L 0 _ HH.out hl).mono ?_
      generalize endV L 0 = q at *
      have hq := HE.out
      rintro e w' ⟨rfl, rfl⟩
      go_wp2_with fail
      go_ret
      exact ⟨ret_bool HF.out.symm, Below.refl _ _⟩
end Go.Proofs.YtpeohfgadnfnpaaGreatDoor
/-
  DERIVED. Layer 4: the contract of the document's fits: has a statement just what its kind has?
-/
namespace Go.Proofs.YtpeohfgadnfnpaaGreatDoor
open Go.RowKit

/-- A statement as a value; what is small enough of one. -/
def stmV (x : Stm) (vE vF : Value) : Value := .agg #[.int .i64 x.kind, .string ⟨x.reg.toArray⟩, .string ⟨x.name.toArray⟩, vE, vF, .int .i64 x.n, .int .i64 x.body, .int .i64 x.els, .int .i64 x.pl]
def SmallS (x : Stm) : Prop := x.reg.length ≤ 100000 ∧ x.name.length ≤ 100000 ∧ x.e.length ≤ 10000 ∧ x.f.length ≤ 10000 ∧ SmallN x.e ∧ SmallN x.f
/-- A box of nine cells. -/
structure Nine (W : World) (g : Nat) (a b c d e f h i j : Value) : Prop where
  lt : g < W.heap.size
  c0 : W.cell? ⟨g, 0, none⟩ = some a
  c1 : W.cell? ⟨g, 1, none⟩ = some b
  c2 : W.cell? ⟨g, 2, none⟩ = some c
  c3 : W.cell? ⟨g, 3, none⟩ = some d
  c4 : W.cell? ⟨g, 4, none⟩ = some e
  c5 : W.cell? ⟨g, 5, none⟩ = some f
  c6 : W.cell? ⟨g, 6, none⟩ = some h
  c7 : W.cell? ⟨g, 7, none⟩ = some i
  c8 : W.cell? ⟨g, 8, none⟩ = some j
theorem nine_new (w : World) (a b c d e f h i j : Value) (t : TypeId) : Nine (w.alloc (.cells #[a, b, c, d, e, f, h, i, j] t)) w.heap.size a b c d e f h i j := ⟨by simp, by simp, by simp, by simp, by simp, by simp, by simp, by simp, by simp, by simp⟩
theorem Nine.on {W W' : World} {g : Nat} {a b c d e f h i j : Value} (k : Nine W g a b c d e f h i j) (hb : Below W.heap.size W W') : Nine W' g a b c d e f h i j := by
  obtain ⟨lt, c0, c1, c2, c3, c4, c5, c6, c7, c8⟩ := k
  have e : ∀ q, W'.cell? ⟨g, q, none⟩ = W.cell? ⟨g, q, none⟩ := fun q => hb.cell (p := ⟨g, q, none⟩) lt
  exact ⟨Nat.lt_of_lt_of_le lt hb.size, by rw [e, c0], by rw [e, c1], by rw [e, c2], by rw [e, c3], by rw [e, c4], by rw [e, c5], by rw [e, c6], by rw [e, c7], by rw [e, c8]⟩

theorem rname_l (l : List UInt8) (w : World) (h : l.length ≤ 100000) : Calls Tryz.prog 57 #[.string ⟨l.toArray⟩] w (TellsB (nameB l) w) := by
  have := rname_any ⟨l.toArray⟩ w (by show l.toArray.size ≤ 100000; simpa using h)
  simpa using this
theorem ramong_114 (k : Int) (w : World) : Calls Tryz.prog 56 #[.string ⟨(hasL k).toArray⟩, .int .u8 114] w (Tells (hasC k 114) w) := ramong_has k 114 w
theorem ramong_110 (k : Int) (w : World) : Calls Tryz.prog 56 #[.string ⟨(hasL k).toArray⟩, .int .u8 110] w (Tells (hasC k 110) w) := ramong_has k 110 w
theorem ramong_101 (k : Int) (w : World) : Calls Tryz.prog 56 #[.string ⟨(hasL k).toArray⟩, .int .u8 101] w (Tells (hasC k 101) w) := ramong_has k 101 w
theorem ramong_102 (k : Int) (w : World) : Calls Tryz.prog 56 #[.string ⟨(hasL k).toArray⟩, .int .u8 102] w (Tells (hasC k 102) w) := ramong_has k 102 w
theorem ramong_107 (k : Int) (w : World) : Calls Tryz.prog 56 #[.string ⟨(hasL k).toArray⟩, .int .u8 107] w (Tells (hasC k 107) w) := ramong_has k 107 w
theorem name_nonempty {l : List UInt8} (h : nameB l = true) : l.isEmpty = false := by
  cases l with
  | nil => exact absurd h (by decide)
  | cons c m => rfl
theorem right_nonempty {l : List Nod} (h : rightL l = true) : l.isEmpty = false := by
  cases l with
  | nil => exact absurd h (by decide)
  | cons c m => rfl

set_option maxRecDepth 100000 in
set_option maxHeartbeats 8000000 in
theorem rfits_any (x : Stm) (vE vF : Value) (w : World) (hE : ReadN w vE x.e) (hF : ReadN w vF x.f) (hs : SmallS x) : Calls Tryz.prog 33 #[stmV x vE vF] w (TellsB (fitS x) w) := by
  obtain ⟨k, reg, name, e, f, n, body, els, pl⟩ := x
  unfold stmV
  simp only
  obtain ⟨s1, s2, s3, s4, s5, s6⟩ := hs
  have HE := Lib.hid hE
  have HF := Lib.hid hF
  have S5 := Lib.hid s5
  have S6 := Lib.hid s6
  obtain ⟨AE, cE, rfl, _⟩ := hE
  obtain ⟨AF, cF, rfl, _⟩ := hF
  clear s5 s6
  simp only at s1 s2 s3 s4
  by_cases hk : 1 ≤ k ∧ k ≤ 14 ∧ 0 ≤ pl ∧ pl ≤ 4000
  · obtain ⟨k1, k2, k3, k4⟩ := hk
    have HV : Hid (fitS ⟨k, reg, name, e, f, n, body, els, pl⟩ = ((if hasC k 114 then nameB reg else reg.isEmpty) && (if hasC k 110 then nameB name else name.isEmpty) && (if hasC k 101 then rightL e else e.isEmpty) && (if hasC k 102 then rightL f else f.isEmpty) && (if hasC k 107 then decide (1 ≤ n) && decide (n ≤ 8) else decide (n = 0)))) := Lib.hid (by unfold fitS; simp [k1, k2, k3, k4])
    obtain ⟨V, hV⟩ : ∃ V, fitS ⟨k, reg, name, e, f, n, body, els, pl⟩ = V := ⟨_, rfl⟩
    rw [hV]
    rw [hV] at HV
    clear hV
    go_enter Tryz.func33, Tryz.ntmps33
    go_wp2_with fail
    refine (rhas_any k _).mono ?_
    rintro e1 w1 ⟨rfl, hb1⟩
    have N1 := Lib.hid ((nine_new w (.int .i64 k) (.string ⟨reg.toArray⟩) (.string ⟨name.toArray⟩) (.slice AE e.length cE) (.slice AF f.length cF) (.int .i64 n) (.int .i64 body) (.int .i64 els) (.int .i64 pl) 31).on hb1)
    have HB : Hid (Below w.heap.size w w1) := Lib.hid (((Below.refl _ _).alloc (Nat.le_refl _) _).trans (hb1.mono (by simp)))
    have HE1 := Lib.hid (HE.out.on HB.out)
    have HF1 := Lib.hid (HF.out.on HB.out)
    clear hb1 HE HF
    go_wp2_with fail
    refine (ramong_114 k _).mono ?_
    rintro e1 w2 ⟨rfl, rfl⟩
    go_wp2_with fail
    refine (ramong_110 k _).mono ?_
    rintro e1 w2 ⟨rfl, rfl⟩
    go_wp2_with fail
    refine (ramong_101 k _).mono ?_
    rintro e1 w2 ⟨rfl, rfl⟩
    go_wp2_with fail
    refine (ramong_102 k _).mono ?_
    rintro e1 w2 ⟨rfl, rfl⟩
    generalize hasC k 114 = r at *
    generalize hasC k 110 = m at *
    generalize hasC k 101 = a at *
    generalize hasC k 102 = b at *
    go_upto_region 5 with (fail)
    go_cut [66] from 37 to 66 (fun c wx => c = .bool (!((if r then nameB reg else reg.isEmpty) && (if m then nameB name else name.isEmpty))) ∧ Below w1.heap.size w1 wx)
    case first =>
      obtain ⟨z, z0, z1, z2, z3, z4, z5, z6, z7, z8⟩ := N1.out
      cases hq : nameB reg with
      | true =>
        have hne := name_nonempty hq
        cases r with
        | false =>
          go_wp2_with fail
          refine (rname_l _ _ s1).mono ?_
          rw [hq]
          rintro e1 w2 ⟨rfl, hb⟩
          go_wp2_with fail
          go_meet
          case rel => exact ⟨by simp [hne], hb⟩
        | true =>
          go_wp2_with fail
          refine (rname_l _ _ s1).mono ?_
          rw [hq]
          rintro e1 w2 ⟨rfl, hb⟩
          have y1 := (N1.out.on hb).c1
          have y2 := (N1.out.on hb).c2
          clear z z0 z1 z2 z3 z4 z5 z6 z7 z8
          cases hq2 : nameB name with
          | true =>
            have hne2 := name_nonempty hq2
            cases m with
            | false =>
              go_wp2_with fail
              refine (rname_l _ _ s2).mono ?_
              rw [hq2]
              rintro e1 w3 ⟨rfl, hb2⟩
              go_wp2_with fail
              go_meet
              case rel => exact ⟨by simp [hne2], below_then hb hb2⟩
            | true =>
              go_wp2_with fail
              refine (rname_l _ _ s2).mono ?_
              rw [hq2]
              rintro e1 w3 ⟨rfl, hb2⟩
              go_wp2_with fail
              go_meet
              case rel => exact ⟨by simp [hq, hq2], below_then hb hb2⟩
          | false =>
            cases m with
            | true =>
              go_wp2_with fail
              refine (rname_l _ _ s2).mono ?_
              rw [hq2]
              rintro e1 w3 ⟨rfl, hb2⟩
              go_wp2_with fail
              go_meet
              case rel => exact ⟨by simp [hq2], below_then hb hb2⟩
            | false =>
              cases name with
              | nil =>
                go_wp2_with fail
                refine (rname_l _ _ s2).mono ?_
                rw [hq2]
                rintro e1 w3 ⟨rfl, hb2⟩
                have x2 := (N1.out.on (below_then hb hb2)).c2
                go_wp2_with fail
                go_meet
                case rel => exact ⟨by simp [hq], below_then hb hb2⟩
              | cons c2 t2 =>
                go_wp2_with fail
                refine (rname_l _ _ s2).mono ?_
                rw [hq2]
                rintro e1 w3 ⟨rfl, hb2⟩
                have x2 := (N1.out.on (below_then hb hb2)).c2
                go_wp2_with fail
                go_meet
                case rel => exact ⟨by simp, below_then hb hb2⟩
      | false =>
        cases r with
        | true =>
          go_wp2_with fail
          refine (rname_l _ _ s1).mono ?_
          rw [hq]
          rintro e1 w2 ⟨rfl, hb⟩
          go_wp2_with fail
          go_meet
          case rel => exact ⟨by simp [hq], hb⟩
        | false =>
          cases reg with
          | nil =>
            go_wp2_with fail
            refine (rname_l _ _ s1).mono ?_
            rw [hq]
            rintro e1 w2 ⟨rfl, hb⟩
            have y1 := (N1.out.on hb).c1
            have y2 := (N1.out.on hb).c2
            clear z z0 z1 z2 z3 z4 z5 z6 z7 z8
            cases hq2 : nameB name with
            | true =>
              have hne2 := name_nonempty hq2
              cases m with
              | false =>
                go_wp2_with fail
                refine (rname_l _ _ s2).mono ?_
                rw [hq2]
                rintro e1 w3 ⟨rfl, hb2⟩
                go_wp2_with fail
                go_meet
                case rel => exact ⟨by simp [hne2], below_then hb hb2⟩
              | true =>
                go_wp2_with fail
                refine (rname_l _ _ s2).mono ?_
                rw [hq2]
                rintro e1 w3 ⟨rfl, hb2⟩
                go_wp2_with fail
                go_meet
                case rel => exact ⟨by simp [hq2], below_then hb hb2⟩
            | false =>
              cases m with
              | true =>
                go_wp2_with fail
                refine (rname_l _ _ s2).mono ?_
                rw [hq2]
                rintro e1 w3 ⟨rfl, hb2⟩
                go_wp2_with fail
                go_meet
                case rel => exact ⟨by simp [hq2], below_then hb hb2⟩
              | false =>
                cases name with
                | nil =>
                  go_wp2_with fail
                  refine (rname_l _ _ s2).mono ?_
                  rw [hq2]
                  rintro e1 w3 ⟨rfl, hb2⟩
                  have x2 := (N1.out.on (below_then hb hb2)).c2
                  go_wp2_with fail
                  go_meet
                  case rel => exact ⟨by simp, below_then hb hb2⟩
                | cons c2 t2 =>
                  go_wp2_with fail
                  refine (rname_l _ _ s2).mono ?_
                  rw [hq2]
                  rintro e1 w3 ⟨rfl, hb2⟩
                  have x2 := (N1.out.on (below_then hb hb2)).c2
                  go_wp2_with fail
                  go_meet
                  case rel => exact ⟨by simp, below_then hb hb2⟩
          | cons c1 t1 =>
            go_wp2_with fail
            refine (rname_l _ _ s1).mono ?_
            rw [hq]
            rintro e1 w2 ⟨rfl, hb⟩
            have y1 := (N1.out.on hb).c1
            have y2 := (N1.out.on hb).c2
            clear z z0 z1 z2 z3 z4 z5 z6 z7 z8
            go_wp2_with fail
            go_meet
            case rel => exact ⟨by simp, hb⟩
    case rest =>
      obtain ⟨rfl, hbc⟩ := hcut
      have NC := Lib.hid (N1.out.on hbc)
      have HBC := Lib.hid (below_then HB.out hbc)
      have HEC := Lib.hid (HE1.out.on hbc)
      have HFC := Lib.hid (HF1.out.on hbc)
      clear hbc N1 HB HE1 HF1
      generalize ((if r = true then nameB reg else reg.isEmpty) && (if m = true then nameB name else name.isEmpty)) = q1 at *
      cases q1 with
      | false =>
        have HV' : Hid (V = false) := Lib.hid (by rw [HV.out]; rfl)
        go_wp2_with fail
        go_ret
        exact ⟨ret_bool HV'.out.symm, HBC.out⟩
      | true =>
      go_upto_region 7 with (fail)
      go_cut [98] from 67 to 98 (fun c wx => c = .bool (!((if a then rightL e else e.isEmpty) && (if b then rightL f else f.isEmpty))) ∧ Below wc.heap.size wc wx)
      case first =>
        obtain ⟨z, z0, z1, z2, z3, z4, z5, z6, z7, z8⟩ := NC.out
        cases hq : rightL e with
        | true =>
          have hne := right_nonempty hq
          cases a with
          | false =>
            go_wp2_with fail
            refine (rright_any _ _ _ HEC.out s3 S5.out).mono ?_
            rw [hq]
            rintro e1 w2 ⟨rfl, hb⟩
            go_wp2_with fail
            go_meet
            case rel => exact ⟨by simp [hne], hb⟩
          | true =>
            go_wp2_with fail
            refine (rright_any _ _ _ HEC.out s3 S5.out).mono ?_
            rw [hq]
            rintro e1 w2 ⟨rfl, hb⟩
            have y3 := (NC.out.on hb).c3
            have y4 := (NC.out.on hb).c4
            clear z z0 z1 z2 z3 z4 z5 z6 z7 z8
            cases hq2 : rightL f with
            | true =>
              have hne2 := right_nonempty hq2
              cases b with
              | false =>
                go_wp2_with fail
                refine (rright_any _ _ _ (HFC.out.on hb) s4 S6.out).mono ?_
                rw [hq2]
                rintro e1 w3 ⟨rfl, hb2⟩
                go_wp2_with fail
                go_meet
                case rel => exact ⟨by simp [hne2], below_then hb hb2⟩
              | true =>
                go_wp2_with fail
                refine (rright_any _ _ _ (HFC.out.on hb) s4 S6.out).mono ?_
                rw [hq2]
                rintro e1 w3 ⟨rfl, hb2⟩
                go_wp2_with fail
                go_meet
                case rel => exact ⟨by simp [hq, hq2], below_then hb hb2⟩
            | false =>
              cases b with
              | true =>
                go_wp2_with fail
                refine (rright_any _ _ _ (HFC.out.on hb) s4 S6.out).mono ?_
                rw [hq2]
                rintro e1 w3 ⟨rfl, hb2⟩
                go_wp2_with fail
                go_meet
                case rel => exact ⟨by simp [hq2], below_then hb hb2⟩
              | false =>
                cases f with
                | nil =>
                  go_wp2_with fail
                  refine (rright_any _ _ _ (HFC.out.on hb) s4 S6.out).mono ?_
                  rw [hq2]
                  rintro e1 w3 ⟨rfl, hb2⟩
                  have x4 := (NC.out.on (below_then hb hb2)).c4
                  go_wp2_with fail
                  go_meet
                  case rel => exact ⟨by simp [hq], below_then hb hb2⟩
                | cons c2 t2 =>
                  go_wp2_with fail
                  refine (rright_any _ _ _ (HFC.out.on hb) s4 S6.out).mono ?_
                  rw [hq2]
                  rintro e1 w3 ⟨rfl, hb2⟩
                  have x4 := (NC.out.on (below_then hb hb2)).c4
                  go_wp2_with fail
                  go_meet
                  case rel => exact ⟨by simp, below_then hb hb2⟩
        | false =>
          cases a with
          | true =>
            go_wp2_with fail
            refine (rright_any _ _ _ HEC.out s3 S5.out).mono ?_
            rw [hq]
            rintro e1 w2 ⟨rfl, hb⟩
            go_wp2_with fail
            go_meet
            case rel => exact ⟨by simp [hq], hb⟩
          | false =>
            cases e with
            | nil =>
              go_wp2_with fail
              refine (rright_any _ _ _ HEC.out s3 S5.out).mono ?_
              rw [hq]
              rintro e1 w2 ⟨rfl, hb⟩
              have y3 := (NC.out.on hb).c3
              have y4 := (NC.out.on hb).c4
              clear z z0 z1 z2 z3 z4 z5 z6 z7 z8
              cases hq2 : rightL f with
              | true =>
                have hne2 := right_nonempty hq2
                cases b with
                | false =>
                  go_wp2_with fail
                  refine (rright_any _ _ _ (HFC.out.on hb) s4 S6.out).mono ?_
                  rw [hq2]
                  rintro e1 w3 ⟨rfl, hb2⟩
                  go_wp2_with fail
                  go_meet
                  case rel => exact ⟨by simp [hne2], below_then hb hb2⟩
                | true =>
                  go_wp2_with fail
                  refine (rright_any _ _ _ (HFC.out.on hb) s4 S6.out).mono ?_
                  rw [hq2]
                  rintro e1 w3 ⟨rfl, hb2⟩
                  go_wp2_with fail
                  go_meet
                  case rel => exact ⟨by simp [hq2], below_then hb hb2⟩
              | false =>
                cases b with
                | true =>
                  go_wp2_with fail
                  refine (rright_any _ _ _ (HFC.out.on hb) s4 S6.out).mono ?_
                  rw [hq2]
                  rintro e1 w3 ⟨rfl, hb2⟩
                  go_wp2_with fail
                  go_meet
                  case rel => exact ⟨by simp [hq2], below_then hb hb2⟩
                | false =>
                  cases f with
                  | nil =>
                    go_wp2_with fail
                    refine (rright_any _ _ _ (HFC.out.on hb) s4 S6.out).mono ?_
                    rw [hq2]
                    rintro e1 w3 ⟨rfl, hb2⟩
                    have x4 := (NC.out.on (below_then hb hb2)).c4
                    go_wp2_with fail
                    go_meet
                    case rel => exact ⟨by simp, below_then hb hb2⟩
                  | cons c2 t2 =>
                    go_wp2_with fail
                    refine (rright_any _ _ _ (HFC.out.on hb) s4 S6.out).mono ?_
                    rw [hq2]
                    rintro e1 w3 ⟨rfl, hb2⟩
                    have x4 := (NC.out.on (below_then hb hb2)).c4
                    go_wp2_with fail
                    go_meet
                    case rel => exact ⟨by simp, below_then hb hb2⟩
            | cons c1 t1 =>
              go_wp2_with fail
              refine (rright_any _ _ _ HEC.out s3 S5.out).mono ?_
              rw [hq]
              rintro e1 w2 ⟨rfl, hb⟩
              have y3 := (NC.out.on hb).c3
              have y4 := (NC.out.on hb).c4
              clear z z0 z1 z2 z3 z4 z5 z6 z7 z8
              go_wp2_with fail
              go_meet
              case rel => exact ⟨by simp, hb⟩
      case rest =>
        obtain ⟨rfl, hbd⟩ := hcut
        have ND := Lib.hid (NC.out.on hbd)
        have HBD := Lib.hid (below_then HBC.out hbd)
        clear hbd NC HBC HEC HFC
        have HV2 : Hid (V = (((if a = true then rightL e else e.isEmpty) && (if b = true then rightL f else f.isEmpty)) && (if hasC k 107 then decide (1 ≤ n) && decide (n ≤ 8) else decide (n = 0)))) := Lib.hid (by rw [HV.out, Bool.true_and])
        clear HV
        generalize ((if a = true then rightL e else e.isEmpty) && (if b = true then rightL f else f.isEmpty)) = q2 at *
        cases q2 with
        | false =>
          have HV' : Hid (V = false) := Lib.hid (by rw [HV2.out]; rfl)
          go_wp2_with fail
          go_ret
          exact ⟨ret_bool HV'.out.symm, HBD.out⟩
        | true =>
          go_wp2_with fail
          refine (ramong_107 k _).mono ?_
          generalize hasC k 107 = t at *
          rintro e1 w9 ⟨rfl, rfl⟩
          obtain ⟨z, z0, z1, z2, z3, z4, z5, z6, z7, z8⟩ := ND.out
          cases t with
          | false =>
            have HV' : Hid (V = (n == 0)) := Lib.hid (by rw [HV2.out]; exact Bool.eq_iff_iff.2 (by simp))
            go_wp2_with fail
            go_ret
            exact ⟨ret_bool HV'.out.symm, HBD.out⟩
          | true =>
            by_cases hn : 1 ≤ n
            · have HV' : Hid (V = decide (n ≤ 8)) := Lib.hid (by rw [HV2.out]; simp [hn])
              go_wp2_with fail
              go_ret
              exact ⟨ret_bool HV'.out.symm, HBD.out⟩
            · have HV' : Hid (V = false) := Lib.hid (by rw [HV2.out]; simp [hn])
              go_wp2_with fail
              go_ret
              exact ⟨ret_bool HV'.out.symm, HBD.out⟩
  · have HV : Hid (fitS ⟨k, reg, name, e, f, n, body, els, pl⟩ = false) := Lib.hid (by
      unfold fitS
      simp only
      cases h : (decide (1 ≤ k) && decide (k ≤ 14) && decide (0 ≤ pl) && decide (pl ≤ 4000)) with
      | true =>
        simp only [Bool.and_eq_true, decide_eq_true_eq] at h
        exact absurd ⟨h.1.1.1, h.1.1.2, h.1.2, h.2⟩ hk
      | false => rfl)
    rw [HV.out]
    have hb := (Below.refl w.heap.size w).alloc (Nat.le_refl _) (.cells #[.int .i64 k, .string ⟨reg.toArray⟩, .string ⟨name.toArray⟩, .slice AE e.length cE, .slice AF f.length cF, .int .i64 n, .int .i64 body, .int .i64 els, .int .i64 pl] 31)
    have HB := Lib.hid hb
    clear hb HV HE HF S5 S6
    by_cases k1 : k < 1
    · clear hk
      go_enter Tryz.func33, Tryz.ntmps33
      go_wp2_with fail
      go_ret
      exact ⟨rfl, HB.out⟩
    · by_cases k2 : 14 < k
      · clear hk
        go_enter Tryz.func33, Tryz.ntmps33
        go_wp2_with fail
        go_ret
        exact ⟨rfl, HB.out⟩
      · by_cases k3 : pl < 0
        · clear hk
          go_enter Tryz.func33, Tryz.ntmps33
          go_wp2_with fail
          go_ret
          exact ⟨rfl, HB.out⟩
        · have k4 : 4000 < pl := by omega
          clear hk
          go_enter Tryz.func33, Tryz.ntmps33
          go_wp2_with fail
          go_ret
          exact ⟨rfl, HB.out⟩
end Go.Proofs.YtpeohfgadnfnpaaGreatDoor
