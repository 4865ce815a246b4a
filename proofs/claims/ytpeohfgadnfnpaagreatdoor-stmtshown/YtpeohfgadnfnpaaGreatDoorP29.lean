/-
  DERIVED. Texts of the walk, packed: SRight, RRight, RefText, RefShA.
-/
import Derived.Test.YtpeohfgadnfnpaaGreatDoorP27
import Derived.Test.YtpeohfgadnfnpaaGreatDoorP28
import Derived.Test.YtpeohfgadnfnpaaGreatDoorP21
import Derived.Test.YtpeohfgadnfnpaaGreatDoorP12
import Derived.Test.YtpeohfgadnfnpaaGreatDoorP08
import Derived.Laws.IdiomStrings
import Derived.Lib.ItoaLen
/-
  DERIVED. Layer 4: contracts of stmt.deep, Right and Depth.
-/
namespace Go.Proofs.YtpeohfgadnfnpaaGreatDoor
open Go.RowKit

def KindsOK (L : List Stm) : Prop := ∀ x ∈ L, 0 < x.kind ∧ x.kind < 15
theorem kinds_of {L : List Stm} (h : L.all fitS = true) : KindsOK L := by
  intro x hx
  have := List.all_eq_true.1 h x hx
  unfold fitS at this
  simp only [Bool.and_eq_true, decide_eq_true_eq] at this
  omega
def DeepT (n : Nat) : Prop := ∀ (t : Bk) (v : Value) (w : World), t.count = n → n ≤ 40 → t.fit → KindsOK t.flat → ReadSt w v t.flat → Tabs w → Calls Tryz.prog 32 #[v] w (GivesN t.deep w)
theorem kinds_cons {s : Stm} {b e r : Bk} (h : KindsOK (Bk.cons s b e r).flat) : (0 < s.kind ∧ s.kind < 15) ∧ KindsOK b.flat ∧ KindsOK e.flat ∧ KindsOK r.flat := by
  unfold Bk.flat at h
  refine ⟨h s (List.mem_cons_self ..), fun x hx => h x ?_, fun x hx => h x ?_, fun x hx => h x ?_⟩
  · exact List.mem_cons_of_mem _ (List.mem_append_left _ hx)
  · exact List.mem_cons_of_mem _ (List.mem_append_right _ (List.mem_append_left _ hx))
  · exact List.mem_cons_of_mem _ (List.mem_append_right _ (List.mem_append_right _ hx))
theorem deep_cons (s : Stm) (b e r : Bk) (q : Nat) : max q (Bk.cons s b e r).deep = max (if blkK s.kind then max q (max (b.deep + 1) (e.deep + 1)) else q) r.deep := by
  simp only [Bk.deep]
  by_cases h : blkK s.kind
  · rw [if_pos h, if_pos h]; omega
  · rw [if_neg h, if_neg h]; omega
set_option maxRecDepth 100000 in
set_option maxHeartbeats 8000000 in
theorem sdeep_step (n : Nat) (ih : ∀ m, m < n → DeepT m) : DeepT n := by
  intro t v w hn h40 hfit hkind h ht
  subst hn
  have HL := Lib.hid h
  have IH := Lib.hid ih
  have HT := Lib.hid ht
  have HFT := Lib.hid hfit
  have HKD := Lib.hid hkind
  clear ih ht hfit hkind
  obtain ⟨A, c, rfl, _⟩ := h
  obtain ⟨R, hR⟩ : ∃ R, t.deep = R := ⟨_, rfl⟩
  rw [hR]
  have HV := Lib.hid hR
  have HLE := Lib.hid (deep_le_count t)
  have hRl : R ≤ t.count := by rw [← hR]; exact HLE.out
  clear hR
  go_enter Tryz.func32, Tryz.ntmps32
  go_wp2_with fail
  go_loopw [0, 3] (fun v d wr => ∃ (t' : Bk) (q : Nat), ReadSt wr v t'.flat ∧ d = .int .i64 q ∧ max q t'.deep = R ∧ t'.fit ∧ KindsOK t'.flat ∧ t'.count ≤ t.count ∧ Below w.heap.size w wr) (fun v _ _ => lenV v)
  case atStart => exact ⟨t, 0, HL.out, rfl, by rw [← HV.out]; simp, HFT.out, HKD.out, Nat.le_refl _, Below.refl _ _⟩
  case round =>
    obtain ⟨t', q, hr, rfl, hq, hf, hkd, hct, hb⟩ := hrel
    have HM := Lib.hid hr
    have HQ := Lib.hid hq
    have HF := Lib.hid hf
    have HK := Lib.hid hkd
    have HB := Lib.hid hb
    have HTR := Lib.hid (HT.out.on hb)
    have hqR : q ≤ 40 := by omega
    clear hf hb hkd hq
    obtain ⟨A', c', rfl, hc', hm', hr⟩ := hr
    cases t' with
    | nil =>
      have HN : Hid (q = R) := Lib.hid (by have := HQ.out; simp only [Bk.deep] at this; omega)
      clear hr
      go_wp2_with fail
      go_ret
      exact ⟨ret_int (by rw [HN.out]), HB.out⟩
    | cons s b e r =>
      obtain ⟨p1, p2, p3, p4⟩ := parts_flat s b e r HF.out
      have P1 := Lib.hid p1
      have P2 := Lib.hid p2
      have P3 := Lib.hid p3
      have P4 := Lib.hid p4
      have hfl : (Bk.cons s b e r).flat = s :: (b.flat ++ (e.flat ++ r.flat)) := rfl
      have hln : (b.flat ++ (e.flat ++ r.flat)).length = b.count + e.count + r.count := by simp only [List.length_append, flat_count]; omega
      have hcc : b.count + e.count + r.count + 1 ≤ t.count := hct
      clear p1 p2 p3 p4 hct
      rw [hfl] at HM hr hc' ⊢
      obtain ⟨g, o, AE, nE, cE, AF, nF, cF, rfl, h9⟩ := hr 0 s rfl
      have H9 := Lib.hid h9
      clear hr h9
      obtain ⟨⟨k1, k2⟩, kb, ke, kr⟩ := kinds_cons HK.out
      have KB := Lib.hid kb
      have KE := Lib.hid ke
      have KR := Lib.hid kr
      clear kb ke kr
      have HD := Lib.hid (deep_cons s b e r q)
      obtain ⟨n, hn⟩ : ∃ n : Nat, s.kind = n := ⟨s.kind.toNat, by omega⟩
      have HBK : Hid (hasC n 98 = decide (blkK s.kind)) := Lib.hid (by rw [← hn]; exact has_blk k1 k2)
      have hn15 : n < 15 := by omega
      have HNK := Lib.hid hn
      clear hn
      have hlr : (s :: (b.flat ++ (e.flat ++ r.flat))).length = (b.count + e.count + r.count) + 1 := by rw [List.length_cons, hln]
      rw [hlr] at hc' ⊢
      go_wp2_with fail
      refine (cut_says _ s (b.flat ++ (e.flat ++ r.flat)) _ (by have := HM.out; rwa [hlr] at this) P1.out (by omega)).mono ?_
      rw [P2.out, P3.out, P4.out]
      rintro e2 w2 ⟨v1, v2, v3, rfl, r1, r2, r3, hb2⟩
      have R1 := Lib.hid r1
      have R2 := Lib.hid r2
      have R3 := Lib.hid r3
      have HB2 := Lib.hid hb2
      have HT2 := Lib.hid (HTR.out.on hb2)
      have hcl := HT2.out.own hn15
      have htl := HT2.out.lt
      obtain ⟨lt9, x0, _⟩ := H9.out.on hb2
      rw [HNK.out] at x0
      simp only [Nat.zero_mul, Nat.add_zero] at x0
      clear r1 r2 r3 hb2
      go_wp2_with fail
      refine (contains_l hn15 98 _).mono ?_
      rw [HBK.out]
      by_cases hblk : blkK s.kind
      · rw [decide_eq_true hblk]
        rintro e3 w3 ⟨rfl, rfl⟩
        have HN : Hid (max (max q (max (b.deep + 1) (e.deep + 1))) r.deep = R) := Lib.hid (by rw [← HQ.out, HD.out, if_pos hblk])
        have l1 := deep_le_count b
        have l2 := deep_le_count e
        clear hblk
        go_wp2_with fail
        refine (IH.out b.count (by omega) b v1 _ rfl (by omega) HF.out.2.2.2.2.1 KB.out R1.out HT2.out).mono ?_
        generalize b.deep = db at *
        rintro e4 w4 ⟨rfl, hb4⟩
        have HB4 := Lib.hid (below_then HB2.out hb4)
        have R2' := Lib.hid (R2.out.on hb4)
        have R3' := Lib.hid (R3.out.on hb4)
        clear hb4 x0 hcl
        go_wp2_with fail
        refine (IH.out e.count (by omega) e v2 _ rfl (by omega) HF.out.2.2.2.2.2.1 KE.out R2'.out (HTR.out.on HB4.out)).mono ?_
        generalize e.deep = de at *
        rintro e5 w5 ⟨rfl, hb5⟩
        have HB5 := Lib.hid (below_then HB4.out hb5)
        have R3'' := Lib.hid (R3'.out.on hb5)
        clear hb5
        go_wp2_with fail
        all_goals
          go_roundw
          case rel => exact ⟨r, max q (max (db + 1) (de + 1)), R3''.out, congrArg (Value.int .i64) (by omega), HN.out, HF.out.2.2.2.2.2.2, KR.out, by omega, below_then HB.out HB5.out⟩
          case measure => rw [R3''.out.lenV, flat_count]; show _ < _ + 1; omega
      · rw [decide_eq_false hblk]
        rintro e3 w3 ⟨rfl, rfl⟩
        have HN : Hid (max q r.deep = R) := Lib.hid (by rw [← HQ.out, HD.out, if_neg hblk])
        clear hblk
        go_wp2_with fail
        go_roundw
        case rel => exact ⟨r, q, R3.out, rfl, HN.out, HF.out.2.2.2.2.2.2, KR.out, by omega, below_then HB.out HB2.out⟩
        case measure => rw [R3.out.lenV, flat_count]; show _ < _ + 1; omega
theorem sdeep_all : ∀ n, DeepT n := by
  intro n
  induction n using Nat.strongRecOn with
  | _ n ih => exact sdeep_step n ih
theorem form_tree {b : Bool} {L : List Stm} (h : formS b L = true) : ∃ t : Bk, treeS L = some t ∧ t.fit ∧ t.flat = L ∧ KindsOK L := by
  unfold formS at h
  cases ht : treeS L with
  | none => rw [ht] at h; cases h
  | some t =>
    rw [ht] at h
    simp only [Bool.and_eq_true] at h
    obtain ⟨h1, h2⟩ := treeS_some ht
    exact ⟨t, rfl, h1, h2, kinds_of h.1⟩
set_option maxRecDepth 100000 in
set_option maxHeartbeats 4000000 in
theorem sright_any (v : Value) (L : List Stm) (w : World) (h : ReadSt w v L) (hs : ∀ x ∈ L, SmallS x) (ht : Tabs w) : Calls Tryz.prog 16 #[v] w (TellsB (rightS L) w) := by
  have HL := Lib.hid h
  have HS := Lib.hid hs
  have HT := Lib.hid ht
  obtain ⟨A, c, rfl, _⟩ := h
  clear hs ht
  by_cases h40 : L.length ≤ 40
  · go_enter Tryz.func16, Tryz.ntmps16
    go_wp2_with fail
    refine (form_all _ L _ false _ rfl h40 HS.out HL.out HT.out).mono ?_
    cases hf : formS false L with
    | false =>
      have HN : Hid (rightS L = false) := Lib.hid (by rw [form_right, hf]; simp)
      rintro e w1 ⟨rfl, hb1⟩
      go_wp2_with fail
      go_ret
      exact ⟨ret_bool HN.out.symm, hb1⟩
    | true =>
      obtain ⟨t, h1, h2, h3, h4⟩ := form_tree hf
      have HN : Hid (rightS L = decide ((t.deep : Int) ≤ 12)) := Lib.hid (by
        rw [form_right, hf, h1, decide_eq_true h40]
        exact Bool.eq_iff_iff.2 (by simp; omega))
      subst h3
      have H2 := Lib.hid h2
      have H4 := Lib.hid h4
      clear h1 h2 h4 hf
      rintro e w1 ⟨rfl, hb1⟩
      have HB1 := Lib.hid hb1
      clear hb1
      go_wp2_with fail
      refine (sdeep_all _ t _ _ rfl (by rw [← flat_count]; exact h40) H2.out H4.out (HL.out.on HB1.out) (HT.out.on HB1.out)).mono ?_
      rintro e w2 ⟨rfl, hb2⟩
      go_wp2_with fail
      go_ret
      exact ⟨ret_bool HN.out.symm, below_then HB1.out hb2⟩
  · have HN : Hid (rightS L = false) := Lib.hid (by unfold rightS; simp [h40])
    rw [HN.out]
    go_enter Tryz.func16, Tryz.ntmps16
    go_wp2_with fail
    go_ret
    exact ⟨rfl, Below.refl _ _⟩
set_option maxRecDepth 100000 in
set_option maxHeartbeats 4000000 in
theorem sdepth_any (v : Value) (L : List Stm) (w : World) (h : ReadSt w v L) (hs : ∀ x ∈ L, SmallS x) (ht : Tabs w) : Calls Tryz.prog 20 #[v] w (GivesN (depthS L) w) := by
  have HL := Lib.hid h
  have HS := Lib.hid hs
  have HT := Lib.hid ht
  obtain ⟨A, c, rfl, _⟩ := h
  clear hs ht
  go_enter Tryz.func20, Tryz.ntmps20
  go_wp2_with fail
  refine (sright_any _ L _ HL.out HS.out HT.out).mono ?_
  cases hr : rightS L with
  | false =>
    have HN := Lib.hid (depthS_no hr)
    rintro e w1 ⟨rfl, hb1⟩
    go_wp2_with fail
    go_ret
    exact ⟨ret_int HN.out.symm, hb1⟩
  | true =>
    obtain ⟨b, hb, g1, g2, g3, g4, g5⟩ := rightS_some hr
    subst hb
    have HN : Hid (depthS b.flat = b.deep) := Lib.hid (depthS_right g1.1 hr)
    have G1 := Lib.hid g1.1
    have GK := Lib.hid (kinds_of g1.2)
    clear g1 g3 g4 g5 hr
    rintro e w1 ⟨rfl, hb1⟩
    have HB1 := Lib.hid hb1
    clear hb1
    go_wp2_with fail
    refine (sdeep_all _ b _ _ rfl g2 G1.out GK.out (HL.out.on HB1.out) (HT.out.on HB1.out)).mono ?_
    rintro e w2 ⟨rfl, hb2⟩
    go_wp2_with fail
    go_ret
    exact ⟨ret_int HN.out.symm, below_then HB1.out hb2⟩
end Go.Proofs.YtpeohfgadnfnpaaGreatDoor
/-
  DERIVED. Layer 4: contracts of the document's Right and Depth.
-/
namespace Go.Proofs.YtpeohfgadnfnpaaGreatDoor
open Go.RowKit

theorem all_takeS {L : List Stm} {k : Nat} {x : Stm} (hx : L[k]? = some x) (h : (L.take k).all fitS = true) (hf : fitS x = true) : (L.take (k + 1)).all fitS = true := by
  rw [List.take_add_one, hx, List.all_append, h]; simp [hf]
theorem all_noS {L : List Stm} {k : Nat} {x : Stm} (hx : L[k]? = some x) (hf : fitS x = false) : L.all fitS = false := by
  rw [List.all_eq_false]
  exact ⟨x, List.mem_of_getElem? hx, by rw [hf]; simp⟩
set_option maxRecDepth 100000 in
set_option maxHeartbeats 4000000 in
theorem rright4_any (v : Value) (L : List Stm) (w : World) (h : ReadSt w v L) (hl : L.length ≤ 10000) (hs : ∀ x ∈ L, SmallS x) : Calls Tryz.prog 17 #[v] w (TellsB (rightS L) w) := by
  have HL := Lib.hid h
  have HS := Lib.hid hs
  clear hs
  obtain ⟨A, c, rfl, hc, hm, hr⟩ := h
  have HR := Lib.hid hr
  clear hr
  obtain ⟨V, hV⟩ : ∃ V, rightS L = V := ⟨_, rfl⟩
  rw [hV]
  have HV := Lib.hid hV
  clear hV
  by_cases h40 : L.length ≤ 40
  · go_enter Tryz.func17, Tryz.ntmps17
    go_wp2_with fail
    go_loopw [3] (fun i wr => ∃ k : Nat, k ≤ L.length ∧ i = .int .i64 k ∧ (L.take k).all fitS = true ∧ Below w.heap.size w wr) (fun i _ => L.length - (intOf i).toNat)
    case atStart => exact ⟨0, Nat.zero_le _, rfl, rfl, Below.refl _ _⟩
    case round =>
      obtain ⟨k, hk, rfl, ha, hb⟩ := hrel
      have HA := Lib.hid ha
      have HB := Lib.hid hb
      clear ha hb
      by_cases hlt : k < L.length
      · have hx : L[k]? = some L[k] := List.getElem?_eq_getElem hlt
        generalize L[k] = x at *
        have HSX := Lib.hid (HS.out x (List.mem_of_getElem? hx))
        obtain ⟨g, o, AE, nE, cE, AF, nF, cF, rfl, h9⟩ := HR.out k x hx
        have H9 := Lib.hid (h9.on HB.out)
        clear h9
        obtain ⟨lt9, x0, x1, x2, x3, x4, x5, x6, x7, x8, re, rf⟩ := H9.out
        have HX := Lib.hid hx
        have HRE := Lib.hid re
        have HRF := Lib.hid rf
        clear hx re rf
        go_wp2_with fail
        refine (rfits_any x (.slice AE nE cE) (.slice AF nF cF) _ HRE.out HRF.out HSX.out).mono ?_
        cases hf : fitS x with
        | true =>
          have HN := Lib.hid (all_takeS HX.out HA.out hf)
          rintro e w1 ⟨rfl, hb1⟩
          have HB1 := Lib.hid (below_then HB.out hb1)
          clear hb1
          go_wp2_with fail
          go_roundw
          case rel => exact ⟨k + 1, by omega, by go_num, HN.out, HB1.out⟩
          case measure => simp [intOf]; omega
        | false =>
          have HN : Hid (V = false) := Lib.hid (by rw [← HV.out]; unfold rightS; rw [all_noS HX.out hf]; simp)
          rintro e w1 ⟨rfl, hb1⟩
          have HB1 := Lib.hid (below_then HB.out hb1)
          clear hb1
          go_wp2_with fail
          go_ret
          exact ⟨ret_bool HN.out.symm, HB1.out⟩
      · have HA2 : Hid (L.all fitS = true) := Lib.hid (by have := HA.out; rwa [List.take_of_length_le (by omega)] at this)
        have HRD := Lib.hid (HL.out.on HB.out)
        go_wp2_with fail
        refine (rdeep4_any _ L _ HRD.out h40).mono ?_
        rcases deep_cases 0 L with ⟨ea, ea2⟩ | ⟨a, ea, ea2, ea3⟩
        · have HN : Hid (V = false) := Lib.hid (by rw [← HV.out]; unfold rightS; rw [ea]; simp)
          rw [ea2]
          rintro e w1 ⟨rfl, hb1⟩
          have HB1 := Lib.hid (below_then HB.out hb1)
          clear hb1 ea ea2
          go_wp2_with fail
          go_ret
          exact ⟨ret_bool HN.out.symm, HB1.out⟩
        · have HN : Hid (V = decide ((a : Int) ≤ 12)) := Lib.hid (by
            rw [← HV.out]; unfold rightS; rw [ea, HA2.out]; simp [h40]; omega)
          rw [ea2]
          rintro e w1 ⟨rfl, hb1⟩
          have HB1 := Lib.hid (below_then HB.out hb1)
          clear hb1 ea ea2
          go_wp2_with fail
          go_ret
          exact ⟨ret_bool HN.out.symm, HB1.out⟩
  · have HN : Hid (V = false) := Lib.hid (by rw [← HV.out]; unfold rightS; simp [h40])
    go_enter Tryz.func17, Tryz.ntmps17
    go_wp2_with fail
    go_ret
    exact ⟨ret_bool HN.out.symm, Below.refl _ _⟩
set_option maxRecDepth 100000 in
set_option maxHeartbeats 4000000 in
theorem rdepth4_any (v : Value) (L : List Stm) (w : World) (h : ReadSt w v L) (hl : L.length ≤ 10000) (hs : ∀ x ∈ L, SmallS x) : Calls Tryz.prog 21 #[v] w (GivesN (depthS L) w) := by
  have HL := Lib.hid h
  have HS := Lib.hid hs
  clear hs
  obtain ⟨A, c, rfl, _⟩ := h
  go_enter Tryz.func21, Tryz.ntmps21
  go_wp2_with fail
  refine (rright4_any _ L _ HL.out hl HS.out).mono ?_
  cases hr : rightS L with
  | false =>
    have HN := Lib.hid (depthS_no hr)
    rintro e w1 ⟨rfl, hb1⟩
    go_wp2_with fail
    go_ret
    exact ⟨ret_int HN.out.symm, hb1⟩
  | true =>
    obtain ⟨b, hb, g1, g2, g3, g4, g5⟩ := rightS_some hr
    have HN : Hid (depthS L = deepI 0 L) := Lib.hid (by
      unfold depthS deepI deepS; rw [hr, g5]; simp [g3])
    have h40 : L.length ≤ 40 := by rw [← hb, flat_count]; exact g2
    rintro e w1 ⟨rfl, hb1⟩
    have HB1 := Lib.hid hb1
    clear hb g1 g2 g3 g4 g5 hb1
    go_wp2_with fail
    refine (rdeep4_any _ L _ (HL.out.on HB1.out) h40).mono ?_
    rintro e w2 ⟨rfl, hb2⟩
    go_wp2_with fail
    go_ret
    exact ⟨ret_int HN.out.symm, below_then HB1.out hb2⟩
end Go.Proofs.YtpeohfgadnfnpaaGreatDoor
/-
  DERIVED. Layer 3: contracts of the document's answers: leadlineref01.Text (from 0 on), leadlineref03's sign.
-/
namespace Go.Proofs.YtpeohfgadnfnpaaGreatDoor
open Go.RowKit
theorem conv_dig (n : Int) (h0 : 0 ≤ n) (h1 : n < 10) (w : World) : (convert 85 9 (.slice (some ⟨w.heap.size, 0, none⟩) 1 1)).run Tryz.prog (w.alloc (.cells #[.int .u8 (48 + n)] 5)) = .ok (.string ⟨(Lib.decDigits n.toNat).toArray⟩) (w.alloc (.cells #[.int .u8 (48 + n)] 5)) := by
  obtain ⟨k, rfl⟩ : ∃ k : Nat, n = (k : Int) := ⟨n.toNat, by omega⟩
  have hk : k < 10 := by omega
  have h := run_convert_bytes_back (P := Tryz.prog) (w.alloc (.cells #[.int .u8 (48 + (k : Int))] 5)) 85 9 5 ⟨w.heap.size, 0, none⟩ 1 [UInt8.ofNat (48 + k)] Tryz.underlying85 Tryz.underlying5 Tryz.underlying9 (fun j hj => by
    obtain rfl : j = 0 := by simp at hj; omega
    show (w.alloc (.cells #[.int .u8 (48 + (k : Int))] 5 _)).cell? ⟨w.heap.size, 0, none⟩ = _
    rw [World.cell?_alloc_mark]
    show some (Value.int .u8 (48 + (k : Int))) = some (.int .u8 ((UInt8.ofNat (48 + k)).toNat : Int))
    rw [(dig_of hk).2]; simp)
  rw [Int.toNat_natCast, dec_small hk]
  exact h

set_option maxHeartbeats 2000000 in
theorem rtext_dig (n : Int) (w : World) (h0 : 0 ≤ n) (h1 : n < 10) :
    Calls Tryz.prog 99 #[.int .i64 n] w fun e w' => e = .returned (.string ⟨(Lib.decDigits n.toNat).toArray⟩) ∧ Below w.heap.size w w' := by
  have hc := conv_dig n h0 h1
  generalize Lib.decDigits n.toNat = l at *
  go_enter Tryz.func99, Tryz.ntmps99
  go_wp2_with fail
  go_ret
  exact ⟨rfl, (Below.refl _ _).alloc (Nat.le_refl _) _⟩

theorem dec_len (n : Int) (h0 : 0 ≤ n) (h1 : n < 10) : (Lib.decDigits n.toNat).length ≤ 21 := by
  rw [dec_small (by omega)]; simp
theorem itoa_pos (n : Int) (h : 10 ≤ n) : Lib.itoa (n / 10) ++ Lib.decDigits (n % 10).toNat = Lib.itoa n := by
  obtain ⟨u, rfl⟩ : ∃ u : Nat, n = (u : Int) := ⟨n.toNat, by omega⟩
  rw [show (u : Int) / 10 = ((u / 10 : Nat) : Int) from by omega, show (u : Int) % 10 = ((u % 10 : Nat) : Int) from by omega, Int.toNat_natCast, Lib.itoa_nonneg, Lib.itoa_nonneg, dec_step (by omega : ¬ u < 10), dec_small (by omega : u % 10 < 10)]
def RText (n : Int) (w : World) (e : Ending) (w' : World) : Prop := e = .returned (.string ⟨(Lib.itoa n).toArray⟩) ∧ Below w.heap.size w w'
theorem rtext_of {n : Int} {w w' : World} {e : Ending} {l : List UInt8} (he : e = .returned (.string ⟨l.toArray⟩)) (h : l = Lib.itoa n) (hb : Below w.heap.size w w') : RText n w e w' := by
  subst h; exact ⟨he, hb⟩

set_option maxHeartbeats 2000000 in
theorem rtext_pos (n : Int) (w : World) (h1 : 10 ≤ n) (h2 : n ≤ 9223372036854775807) (ih : Hid (∀ w, Calls Tryz.prog 99 #[.int .i64 (n / 10)] w (RText (n / 10) w))) :
    Calls Tryz.prog 99 #[.int .i64 n] w (RText n w) := by
  have HI := Lib.hid (itoa_pos n h1)
  go_enter Tryz.func99, Tryz.ntmps99
  go_wp2_with fail
  refine (ih.out _).mono ?_; rintro e w1 ⟨rfl, hb⟩
  have g1 := Lib.itoa_length_le (n / 10) (by omega) (by omega)
  have g2 := dec_len (n % 10) (by omega) (by omega)
  generalize Lib.itoa (n / 10) = l1 at *
  go_wp2_with fail
  refine (rtext_dig (n % 10) _ (by omega) (by omega)).mono ?_; rintro e w2 ⟨rfl, hc⟩; replace hb := below_then hb hc; clear hc w1
  generalize Lib.decDigits (n % 10).toNat = l2 at *
  go_wp2
  go_ret
  exact rtext_of rfl HI.out hb


theorem rtext_any : ∀ (m : Nat) (n : Int), n.natAbs = m → 0 ≤ n → n ≤ 9223372036854775807 → ∀ w, Calls Tryz.prog 99 #[.int .i64 n] w (RText n w) := by
  intro m
  induction m using Nat.strongRecOn with
  | _ m ih =>
    intro n hm hp h1 w
    by_cases hs : n < 10
    · refine (rtext_dig n w hp hs).mono ?_
      rintro e w' ⟨he, hb⟩
      refine rtext_of he ?_ hb
      obtain ⟨u, rfl⟩ : ∃ u : Nat, n = (u : Int) := ⟨n.toNat, by omega⟩
      rw [Lib.itoa_nonneg]; simp
    · exact rtext_pos n w (by omega) h1 (Lib.hid (ih (n / 10).natAbs (by omega) (n / 10) rfl (by omega) (by omega)))

set_option maxRecDepth 100000 in
set_option maxHeartbeats 4000000 in
theorem rsign3_any (op : Int) (h0 : 3 ≤ op) (h1 : op ≤ 15) (w : World) : Calls Tryz.prog 139 #[.int .i64 op] w (GivesSB (signT op.toNat) w) := by
  have h : op = 3 ∨ op = 4 ∨ op = 5 ∨ op = 6 ∨ op = 7 ∨ op = 8 ∨ op = 9 ∨ op = 10 ∨ op = 11 ∨ op = 12 ∨ op = 13 ∨ op = 14 ∨ op = 15 := by omega
  clear h0 h1
  rcases h with rfl | rfl | rfl | rfl | rfl | rfl | rfl | rfl | rfl | rfl | rfl | rfl | rfl <;> (go_enter Tryz.func139, Tryz.ntmps139; go_wp2_with fail; go_ret; exact ⟨rfl, (Below.refl _ _).alloc (Nat.le_refl _) _⟩)
end Go.Proofs.YtpeohfgadnfnpaaGreatDoor
/-
  DERIVED. Layer 3: the document's show at a leaf and behind a sign (leadlineref03).
-/
namespace Go.Proofs.YtpeohfgadnfnpaaGreatDoor
open Go.RowKit

def RShow (x : Ex) : Prop := ∀ (v : Value) (L : List Nod) (i : Nat) (r : List Nod) (b : Bool) (w : World), ReadN w v L → L.length ≤ 10000 → L.drop i = x.flat ++ r → Calls Tryz.prog 123 #[v, .int .i64 i, .bool b] w (GivesSB (showX b x) w)
theorem kept_one {W w1 w2 : World} {a : Nat} {u : Value} (ha : a < W.heap.size) (h : w1.cell? ⟨a, 0, none⟩ = some u ∧ Below W.heap.size W w1) (hb : Below w1.heap.size w1 w2) : w2.cell? ⟨a, 0, none⟩ = some u ∧ Below W.heap.size W w2 := by
  have hz := h.2.size
  exact ⟨(hb.cell (p := ⟨a, 0, none⟩) (by show a < _; omega)).trans h.1, below_then h.2 hb⟩

set_option maxRecDepth 100000 in
set_option maxHeartbeats 4000000 in
theorem rshow_leaf (a : Nod) (ho : (Ex.leaf a).ok) (hs : SmallX (.leaf a)) : RShow (.leaf a) := by
  intro v L i r b w h hl hd
  have hat : L[i]? = some a := lies_top hd
  have hil := lies_len hd
  obtain ⟨A, c, rfl, hc, hm, hr⟩ := h
  obtain ⟨g, o, rfl, hg, x0, x1, x2, x3⟩ := hr i a hat
  have hsm := hs a (by simp [Ex.flat])
  have hop : a.op = 1 ∨ a.op = 2 := by
    have h0 : takesN a.op = some 0 := ho
    unfold takesN at h0
    by_cases h1 : a.op = 1 ∨ a.op = 2
    · exact h1
    · rw [if_neg h1] at h0; split at h0 <;> simp at h0
  simp only [Ex.size] at hil
  have hlt : i < L.length := by omega
  clear hr hat hd
  obtain ⟨op, n, name, pl⟩ := a
  simp only at hop x0 x1 x2 x3 hsm
  rcases hop with rfl | rfl
  · have HS : Hid (showX b (.leaf ⟨1, n, name, pl⟩) = Lib.itoa n) := Lib.hid (by simp [showX])
    go_enter Tryz.func123, Tryz.ntmps123
    go_wp2_with fail
    refine (rtext_any _ n rfl (by omega) (by omega) _).mono ?_
    rintro e w1 ⟨rfl, hb⟩
    have HB := Lib.hid (below_box hb)
    clear hb
    go_wp2_with fail
    go_ret
    exact givesSB_of rfl HS.out.symm HB.out
  · have HS : Hid (showX b (.leaf ⟨2, n, name, pl⟩) = name) := Lib.hid (by simp [showX])
    go_enter Tryz.func123, Tryz.ntmps123
    go_wp2_with fail
    go_ret
    exact givesSB_of rfl HS.out.symm ((Below.refl _ _).alloc (Nat.le_refl _) _)

set_option maxRecDepth 100000 in
set_option maxHeartbeats 4000000 in
theorem rshow_un (a : Nod) (x : Ex) (ho : (Ex.un a x).ok) (hs : SmallX (.un a x)) (hz : x.size ≤ 40) (hx : RShow x) : RShow (.un a x) := by
  intro v L i r b w h hl hd
  have hat : L[i]? = some a := lies_top hd
  have hil := lies_len hd
  have HH := Lib.hid h
  obtain ⟨r1, hr1⟩ := kid_lies (x := .un a x) (y := x) (d := []) (r := []) hd rfl
  rw [show i + (1 + sizes []) = i + 1 from rfl] at hr1
  have HR1 := Lib.hid hr1
  obtain ⟨A, c, rfl, hc, hm, hr⟩ := h
  obtain ⟨g, o, rfl, hg, x0, x1, x2, x3⟩ := hr i a hat
  have hxl := show_len x true (fun c hc => hs c (by simp [Ex.flat, hc]))
  have HX := Lib.hid (show ∀ (v : Value) (L : List Nod) (i : Nat) (r : List Nod) (b : Bool) (w : World), ReadN w v L → L.length ≤ 10000 → L.drop i = x.flat ++ r → Calls Tryz.prog 123 #[v, .int .i64 i, .bool b] w (GivesSB (showX b x) w) from hx)
  have HK : Hid (takesV a.op = 1) := Lib.hid (takesV_some ho.1)
  have hop : a.op = 3 ∨ a.op = 4 := by
    have h0 : takesN a.op = some 1 := ho.1
    unfold takesN at h0
    by_cases h1 : a.op = 1 ∨ a.op = 2
    · rw [if_pos h1] at h0; simp at h0
    · rw [if_neg h1] at h0
      by_cases h2 : a.op = 3 ∨ a.op = 4
      · exact h2
      · rw [if_neg h2] at h0; split at h0 <;> simp at h0
  have hsl := sign_len a.op.toNat
  have HS : Hid (showX b (.un a x) = signT a.op.toNat ++ showX true x) := Lib.hid rfl
  have hlt : i < L.length := by simp only [Ex.size] at hil; omega
  clear hr hat hd hr1 hx hil
  obtain ⟨op, n, name, pl⟩ := a
  simp only at hop x0 x1 x2 x3 hsl HK HS
  have hop3 : 3 ≤ op ∧ op ≤ 15 := by omega
  have e1 : (op == 1) = false := beq_eq_false_iff_ne.2 (by omega)
  have e2 : (op == 2) = false := beq_eq_false_iff_ne.2 (by omega)
  clear hop
  generalize hsg : signT op.toNat = sg at *
  have HSG := Lib.hid hsg
  generalize hsx : showX true x = sx at *
  have HSX := Lib.hid hsx
  clear hsg hsx
  go_enter Tryz.func123, Tryz.ntmps123
  go_wp2_with fail
  refine (rkids_any _ _).mono ?_
  rw [HK.out]
  rintro e w' ⟨rfl, rfl⟩
  go_wp2_with fail
  refine (rsign3_any op hop3.1 hop3.2 _).mono ?_
  rw [HSG.out]
  rintro e w1 ⟨rfl, hb⟩
  have HB := Lib.hid (below_box hb)
  clear hb
  go_wp2_with fail
  refine (HX.out _ L (i + 1) r1 true _ (HH.out.on HB.out) hl HR1.out).mono ?_
  rw [HSX.out]
  rintro e w2 ⟨rfl, hb⟩
  replace HB := Lib.hid (below_then HB.out hb)
  clear hb
  go_wp2_with fail
  go_ret
  exact givesSB_of (by rw [← str_app]; rfl) HS.out.symm HB.out

end Go.Proofs.YtpeohfgadnfnpaaGreatDoor
