/-
  DERIVED. Layer 4: the walk of the law StmtParses: for every text and every number it is true.
-/
import Derived.Test.YtpeohfgadnfnpaaGreatDoorQ48
import Derived.Test.YtpeohfgadnfnpaaGreatDoorQ32
import Derived.Test.YtpeohfgadnfnpaaGreatDoorQ38
import Derived.Test.YtpeohfgadnfnpaaGreatDoorQ24
namespace Go.Proofs.YtpeohfgadnfnpaaGreatDoor
open Go.RowKit

theorem fit_small4 {x : Stm} (h : fitS x = true) : SmallS x := by
  obtain ⟨h1, h2, _, _, h5, h6, _⟩ := fit_len h
  exact ⟨by omega, by omega, h5.1, h6.1, h5.2, h6.2⟩
theorem right_small4 {L : List Stm} (h : rightS L = true) : ∀ x ∈ L, SmallS x := by
  obtain ⟨b, rfl, g1, _⟩ := rightS_some h
  exact fun x hx => fit_small4 (List.all_eq_true.1 g1.2 x hx)
theorem cut_size4 (s : ByteArray) (n : Nat) : (s.extract 0 (min (s.size : Int) n).toNat).size ≤ n := by
  rw [ByteArray.size_extract]; omega
theorem stmEq_self (p : Bool) (x : Stm) : stmEq p x x = true := by
  rw [stmEq_all]
  have h : ∀ l : List Nod, sameN p l l = true := fun l => sameG_refl (fun a => by unfold nodEq; simp) l
  simp [h]
theorem sameSt_self (p : Bool) (L : List Stm) : sameSt p L L = true := sameG_refl (stmEq_self p) L
theorem stmt_small {n : Nat} {T : List Tok} (hn : n ≤ 4000) (h : TF n T) (i : Int) : (stmtV T i).stmts.length ≤ 40 ∧ ∀ x ∈ (stmtV T i).stmts, SmallS x := by
  by_cases hi : i < 0
  · unfold stmtV; rw [if_pos hi]; exact ⟨by simp, fun x hx => by cases hx⟩
  · obtain ⟨k, rfl⟩ : ∃ k : Nat, i = k := ⟨i.toNat, by omega⟩
    rcases stmt_right hn h k with ⟨er, p, he, hs⟩ | ⟨b, q, _, hs, hf, hr, hq1, hq2⟩
    · rw [hs]; exact ⟨by simp, fun x hx => by cases hx⟩
    · rw [hs]
      refine ⟨?_, right_small4 hr⟩
      unfold rightS at hr
      simp only [Bool.and_eq_true, decide_eq_true_eq] at hr
      exact hr.1.1
/-- What a row's expressions are, whatever has been written into them. -/
def FormsE (B gq : Nat) (K : List Sv) : Prop := ∀ x ∈ K, ∃ A c, x.vE = .slice A x.s.e.length c ∧ x.s.e.length ≤ c ∧ (0 < x.s.e.length → ∃ q o, A = some ⟨q, o, none⟩ ∧ B ≤ q ∧ q ≠ gq)
/-- A row that is being written: what the law's loop reads and writes is there. -/
structure WrK (w0 : World) (gq : Nat) (K : List Sv) (wq : World) : Prop where
  low : Below w0.heap.size w0 wq
  gB : w0.heap.size ≤ gq
  row : ∀ (k : Nat) (x : Sv), K[k]? = some x → wq.cell? ⟨gq, k * 9 + 3, none⟩ = some x.vE ∧ ∃ v, wq.cell? ⟨gq, k * 9 + 5, none⟩ = some v
  fz : ∀ j, wq.frozen? ⟨gq, j, none⟩ = false
  nod : ∀ x ∈ K, ∀ q o c, x.vE = .slice (some ⟨q, o, none⟩) x.s.e.length c → 0 < x.s.e.length → (∃ v, wq.cell? ⟨q, o + 1, none⟩ = some v) ∧ wq.frozen? ⟨q, o + 1, none⟩ = false
theorem cell_kept {w : World} {a b : Addr} {v u : Value} (h : w.cell? a = some u) : ∃ u', (w.setCell b v).cell? a = some u' := by
  by_cases e : a = b
  · subst e; exact ⟨v, World.cell?_setCell_same _ _ _ h⟩
  · exact ⟨u, (World.cell?_setCell_other _ _ _ _ (fun q => e q.symm)).trans h⟩
theorem WrK.put {w0 : World} {gq : Nat} {K : List Sv} {wq : World} (h : WrK w0 gq K wq) {b j : Nat} {v : Value} (hb : w0.heap.size ≤ b) (hne : b ≠ gq ∨ ∀ k, j ≠ k * 9 + 3) : WrK w0 gq K (wq.setCell ⟨b, j, none⟩ v) := by
  refine ⟨h.low.setCell hb v, h.gB, fun k x hx => ?_, fun q => by simpa using h.fz q, fun x hx q o c hv hl => ?_⟩
  · obtain ⟨h1, u, h2⟩ := h.row k x hx
    refine ⟨?_, cell_kept h2⟩
    refine (World.cell?_setCell_other _ _ _ _ (fun e => ?_)).trans h1
    simp only [Addr.mk.injEq] at e
    rcases hne with h3 | h3
    · exact h3 e.1
    · exact h3 k e.2.1
  · obtain ⟨⟨u, h1⟩, h2⟩ := h.nod x hx q o c hv hl
    exact ⟨cell_kept h1, by simpa using h2⟩
theorem wrK_of {w0 w1 w4 : World} {B gq cap : Nat} {K : List Sv} (hB : w0.heap.size ≤ B) (hrow : w1.ownsRow B 31 9 (.slice (some ⟨gq, 0, none⟩) K.length cap) K.length (cellsV K)) (hrd : ∀ x ∈ K, ReadE B w1 x.vE x.s.e ∧ ReadE B w1 x.vF x.s.f) (hb : Below w1.heap.size w1 w4) (hl : Below w0.heap.size w0 w4) : WrK w0 gq K w4 ∧ FormsE w0.heap.size gq K := by
  obtain ⟨hBg, cs, hh⟩ := row_type hrow gq rfl
  have hlt := (Array.getElem?_eq_some_iff.1 hh).1
  have hcs : cs.toList.take (K.length * 9) = cellsV K := by
    rcases hrow.2 with ⟨h0, _⟩ | ⟨g', cap', cur, h1, h2, h3, h4, h5, h6, h7⟩
    · cases h0
    · simp only [Value.slice.injEq, Option.some.injEq, Addr.mk.injEq] at h1
      obtain ⟨⟨rfl, _⟩, _, rfl⟩ := h1
      rw [hh] at h3
      simp only [Option.some.injEq, Obj.cells.injEq] at h3
      rw [h3.1]
      exact h7
  have hh4 : w4.heap[gq]? = some (.cells cs 31 (0, 0)) := by rw [hb.block gq hlt]; exact hh
  have cell_at : ∀ (k : Nat) (x : Sv), K[k]? = some x → ∀ j v, j < 9 → (svCells x)[j]? = some v → w4.cell? ⟨gq, k * 9 + j, none⟩ = some v := by
    intro k x hx j v hj hv
    rw [Lib.cell_of_heap hh4]
    have hk := (List.getElem?_eq_some_iff.1 hx).1
    have h1 : (cellsV K)[k * 9 + j]? = some v := by
      obtain ⟨hk', rfl⟩ := List.getElem?_eq_some_iff.1 hx
      have h2 : K = K.take k ++ (K[k] :: K.drop (k + 1)) := by rw [← List.drop_eq_getElem_cons hk', List.take_append_drop]
      have h3 : (K.take k).length = k := by rw [List.length_take]; omega
      have h4 : cellsV K = cellsV (K.take k) ++ (svCells K[k] ++ cellsV (K.drop (k + 1))) := by
        have h5 : cellsV K = cellsV (K.take k ++ (K[k] :: K.drop (k + 1))) := congrArg cellsV h2
        rw [h5, cellsV_app]
        rfl
      rw [h4, List.getElem?_append_right (by rw [cellsV_len, h3]; omega), cellsV_len, h3, Nat.add_sub_cancel_left, List.getElem?_append_left (by show j < 9; exact hj)]
      exact hv
    rw [← hcs, List.getElem?_take] at h1
    split at h1
    · rw [Array.getElem?_toList] at h1; exact h1
    · cases h1
  have hforms : FormsE w0.heap.size gq K := by
    intro x hx
    obtain ⟨A, c, hv, h1, h2, h3⟩ := (hrd x hx).1.rd
    refine ⟨A, c, hv, h1, fun hl => ?_⟩
    obtain ⟨g', o, hA, _⟩ := h3 0 x.s.e[0] (List.getElem?_eq_getElem hl)
    have hob : x.vE.ownBlock = some g' := by rw [hv, hA]; rfl
    obtain ⟨h4, cs', h5⟩ := (hrd x hx).1.blk g' hob
    refine ⟨g', o, hA, by omega, fun e => ?_⟩
    rw [e, hh] at h5
    simp at h5
  refine ⟨⟨hl, by omega, fun k x hx => ⟨cell_at k x hx 3 _ (by omega) rfl, _, cell_at k x hx 5 _ (by omega) rfl⟩, fun j => Lib.frozen_of_heap hh4 j, fun x hx q o c hv hl => ?_⟩, hforms⟩
  obtain ⟨A, c', hv', h1, h2, h3⟩ := (hrd x hx).1.rd
  rw [hv] at hv'
  simp only [Value.slice.injEq] at hv'
  obtain ⟨hA, _, _⟩ := hv'
  obtain ⟨g', o', hA', hg', d0, d1, _⟩ := h3 0 x.s.e[0] (List.getElem?_eq_getElem hl)
  rw [← hA] at hA'
  simp only [Option.some.injEq, Addr.mk.injEq] at hA'
  obtain ⟨rfl, rfl, _⟩ := hA'
  have hob : x.vE.ownBlock = some q := by rw [hv]; rfl
  obtain ⟨_, cs', h5⟩ := (hrd x hx).1.blk q hob
  have hqlt := (Array.getElem?_eq_some_iff.1 h5).1
  have h6 : w4.heap[q]? = some (.cells cs' 33 (0, 0)) := by rw [hb.block q hqlt]; exact h5
  have d1' : w1.cell? ⟨q, o + 1, none⟩ = some (.int .i64 x.s.e[0].n) := d1
  exact ⟨⟨_, (hb.cell (p := ⟨q, o + 1, none⟩) hqlt).trans d1'⟩, Lib.frozen_of_heap h6 _⟩
set_option maxRecDepth 100000 in
set_option maxHeartbeats 16000000 in
theorem parses4_any (s : ByteArray) (i : Int) (w : World) (ht : Tabs w) : Calls Tryz.prog 3 #[.string s, .int .i64 i] w (IsTrue w) := by
  have HU := Lib.hid (cut_size4 s 900)
  have HT := Lib.hid ht
  clear ht
  go_enter Tryz.func3, Tryz.ntmps3
  go_wp2_with fail
  change Calls _ _ #[.string (s.extract 0 (min (s.size : Int) (900 : Nat)).toNat)] _ _
  generalize s.extract 0 (min (s.size : Int) (900 : Nat)).toNat = u at *
  generalize min (s.size : Int) 900 = mm
  have hu := HU.out
  refine (tokens_any u _ (by omega)).mono ?_
  have hul : u.data.toList.length = u.size := len_data u
  have hsm : SmallT (scanL u.data.toList 0).toks := scan_small (by omega)
  have hsf := scan_facts u.data.toList
  rw [hul] at hsf
  have hTF : TF u.size (scanL u.data.toList 0).toks := hsf.2
  have hss := stmt_small (by omega) hTF i
  have hTl := hsf.1
  generalize (scanL u.data.toList 0).toks = T at *
  rintro e w1 ⟨v1, rfl, ho, hb⟩
  obtain ⟨A1, c1, rfl, _⟩ := ho.read
  have HO := Lib.hid ho.read
  have HB := Lib.hid hb
  have HSM := Lib.hid hsm
  clear ho hb hsm hsf hTF hul
  go_wp2_with fail
  refine (rparse4_any _ T i _ HO.out (HT.out.on HB.out) (by omega) HSM.out).mono ?_
  obtain ⟨q, hq⟩ : ∃ q, stmtV T i = q := ⟨_, rfl⟩
  obtain ⟨M, tq, eq, pq⟩ := q
  have HQ := Lib.hid hq
  rw [hq] at hss
  obtain ⟨hM40, hMs⟩ := hss
  simp only at hM40 hMs
  have HMS := Lib.hid hMs
  rw [hq]
  rintro e w2 ⟨v2, rfl, ho2, hb2⟩
  obtain ⟨A2, c2, rfl, _⟩ := ho2.read
  have HR2 := Lib.hid ho2.read
  replace HO := Lib.hid (HO.out.on hb2)
  replace HB := Lib.hid (below_then HB.out hb2)
  clear ho2 hb2 hq hMs
  simp only
  go_wp2_with fail
  go_loopw [10] (fun t wr => ∃ k : Nat, k ≤ 2 ∧ t = .int .i64 k ∧ Below w2.heap.size w2 wr) (fun t _ => 2 - (intOf t).toNat)
  case atStart => exact ⟨0, by omega, rfl, Below.refl _ _⟩
  case round =>
    obtain ⟨k, hk, rfl, hbel⟩ := hrel
    have HBL := Lib.hid hbel
    have hw1 : IntKind.i64.wrap ((k : Int) + 1) = (k : Int) + 1 := IntWalk.i64_in _ (by omega)
    obtain ⟨wo, hwo⟩ : ∃ x : World, x = wr := ⟨_, rfl⟩
    subst hwo
    clear hbel
    rcases Nat.lt_or_ge k 2 with hlt | hge
    case inr =>
      have hkI : ¬ (k : Int) < 2 := by omega
      go_wp2_with fail
      refine (fixed_any _ (HT.out.on (below_then HB.out HBL.out))).mono ?_
      rintro e w9 ⟨rfl, hb⟩
      go_wp2_with fail
      go_ret
      exact ⟨rfl, below_then (below_then HB.out HBL.out) hb⟩
    case inl =>
      have hkI : (k : Int) < 2 := by omega
      go_wp2_with fail
      refine (sparse_any _ T i _ (HO.out.on HBL.out) (HT.out.on (below_then HB.out HBL.out)) (by omega) HSM.out).mono ?_
      rw [HQ.out]
      rintro e w3 ⟨v3, rfl, ho3, hb3⟩
      have HRA := Lib.hid ho3.read
      obtain ⟨K, hKM, hrow, hrd⟩ := ho3
      obtain ⟨A3, c3, rfl⟩ := row_slice9 hrow
      have HROW := Lib.hid hrow
      have HRD := Lib.hid hrd
      have HKM := Lib.hid hKM
      have HB3 := Lib.hid (below_then HBL.out hb3)
      have HSZ := Lib.hid HBL.out.size
      clear hrow hrd hKM hb3
      simp only
      go_wp2_with fail
      refine (rsame4_any true _ _ M M _ HRA.out (HR2.out.on HB3.out) (by omega) HMS.out).mono ?_
      rw [sameSt_self]
      rintro e w4 ⟨rfl, hb4⟩
      have HB4 := Lib.hid hb4
      have HBX := Lib.hid (below_then HB3.out hb4)
      clear hb4
      have hKl : K.length ≤ 40 := by have := congrArg List.length HKM.out; rw [List.length_map] at this; omega
      go_wp2_with fail
      go_loopw [15] (fun kk wq => ∃ j : Nat, j ≤ K.length ∧ kk = .int .i64 j ∧ Below w2.heap.size w2 wq ∧ (∀ gq, A3 = some ⟨gq, 0, none⟩ → WrK w2 gq K wq ∧ FormsE w2.heap.size gq K)) (fun kk _ => K.length - (intOf kk).toNat)
      case atStart =>
        refine ⟨0, by omega, rfl, HBX.out, fun gq hA => ?_⟩
        have h1 := HROW.out
        rw [hA] at h1
        exact wrK_of HSZ.out h1 HRD.out HB4.out HBX.out
      case round =>
        obtain ⟨j, hj, rfl, hbq, hwk⟩ := hrel
        have HBQ := Lib.hid hbq
        have HWK := Lib.hid hwk
        have hwj : IntKind.i64.wrap ((j : Int) + 1) = (j : Int) + 1 := IntWalk.i64_in _ (by omega)
        clear hbq hwk
        rcases Nat.lt_or_ge j K.length with hjl | hjg
        case inr =>
          have hjI : ¬ (j : Int) < (K.length : Int) := by omega
          go_wp2_with fail
          go_roundw
          case rel => exact ⟨k + 1, by omega, by go_num, HBQ.out⟩
          case measure => simp [intOf]; omega
        case inl =>
          have hjI : (j : Int) < (K.length : Int) := by omega
          have hj0 : (0 : Int) ≤ (j : Int) := by omega
          obtain ⟨gq, rfl⟩ : ∃ gq, A3 = some ⟨gq, 0, none⟩ := by
            rcases HROW.out.2 with ⟨_, h0⟩ | ⟨g', cap', cur, h1, _⟩
            · omega
            · simp only [Value.slice.injEq] at h1
              exact ⟨g', h1.1⟩
          obtain ⟨hW, hF⟩ := HWK.out gq rfl
          obtain ⟨x, hx⟩ : ∃ x, K[j]? = some x := ⟨K[j], List.getElem?_eq_getElem hjl⟩
          obtain ⟨r3, vN, r5⟩ := hW.row j x hx
          have hxm := List.mem_of_getElem? hx
          obtain ⟨AE, cE, hvE, hcE, hAE⟩ := hF x hxm
          have y5 := hW.fz (j * 9 + 5)
          have HW := Lib.hid hW
          have HF := Lib.hid hF
          have hgqB := hW.gB
          have hgql := World.block_lt_of_cell? _ _ r5
          rw [hvE] at r3
          obtain ⟨nE, hnE⟩ : ∃ nE, x.s.e.length = nE := ⟨_, rfl⟩
          by_cases hz : nE = 0
          · subst hz
            rw [hnE] at r3
            clear hW hF hx hxm hvE hcE hAE hnE HWK
            go_wp2_with fail
            go_roundw
            case rel => exact ⟨j + 1, by omega, by go_num, HBQ.out.setCell hgqB _, fun g' e => by
              simp only [Option.some.injEq, Addr.mk.injEq] at e
              rw [← e.1]
              exact ⟨HW.out.put hgqB (.inr fun k => by omega), HF.out⟩⟩
            case measure => simp [intOf]; omega
          · have hpos : 0 < x.s.e.length := by omega
            obtain ⟨qb, ob, rfl, hqB, hqg⟩ := hAE hpos
            obtain ⟨⟨vq, hq1⟩, hq2⟩ := hW.nod x hxm qb ob cE hvE hpos
            rw [hnE] at r3 hcE
            have hnI : (0 : Int) < (nE : Int) := by omega
            have hqg2 : ¬ gq = qb := fun e => hqg e.symm
            have hql := World.block_lt_of_cell? _ _ hq1
            clear hW hF hx hxm hvE hAE hnE hpos HWK
            go_wp2_with fail
            go_roundw
            case rel => exact ⟨j + 1, by omega, by go_num, (HBQ.out.setCell hqB _).setCell hgqB _, fun g' e => by
              simp only [Option.some.injEq, Addr.mk.injEq] at e
              rw [← e.1]
              exact ⟨(HW.out.put hqB (.inl hqg)).put hgqB (.inr fun k => by omega), HF.out⟩⟩
            case measure => simp [intOf]; omega
end Go.Proofs.YtpeohfgadnfnpaaGreatDoor
