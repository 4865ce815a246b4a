/-
  DERIVED. Texts of the walk, packed: SRight, SMeant.
-/
import Derived.Test.YtpeohfgadnfnpaaGreatDoorQ24
import Derived.Test.YtpeohfgadnfnpaaGreatDoorQ21
/-
  DERIVED. Layer 4: contracts of stmt.deep, Right and Depth.
-/
namespace Go.Proofs.YtpeohfgadnfnpaaGreatDoor
open Go.RowKit

def KindsOK (L : List Stm) : Prop := ∀ x ∈ L, 0 < x.kind ∧ x.kind < 15
theorem kinds_of {L : List Stm} (h : L.all fitS = true) : KindsOK L := by
  intro x hx
  have := List.all_eq_true.1 h x hx
  unfold fitS at this
  simp only [Bool.and_eq_true, decide_eq_true_eq] at this
  omega
def DeepT (n : Nat) : Prop := ∀ (t : Bk) (v : Value) (w : World), t.count = n → n ≤ 40 → t.fit → KindsOK t.flat → ReadSt w v t.flat → Tabs w → Calls Tryz.prog 32 #[v] w (GivesN t.deep w)
theorem kinds_cons {s : Stm} {b e r : Bk} (h : KindsOK (Bk.cons s b e r).flat) : (0 < s.kind ∧ s.kind < 15) ∧ KindsOK b.flat ∧ KindsOK e.flat ∧ KindsOK r.flat := by
  unfold Bk.flat at h
  refine ⟨h s (List.mem_cons_self ..), fun x hx => h x ?_, fun x hx => h x ?_, fun x hx => h x ?_⟩
  · exact List.mem_cons_of_mem _ (List.mem_append_left _ hx)
  · exact List.mem_cons_of_mem _ (List.mem_append_right _ (List.mem_append_left _ hx))
  · exact List.mem_cons_of_mem _ (List.mem_append_right _ (List.mem_append_right _ hx))
theorem deep_cons (s : Stm) (b e r : Bk) (q : Nat) : max q (Bk.cons s b e r).deep = max (if blkK s.kind then max q (max (b.deep + 1) (e.deep + 1)) else q) r.deep := by
  simp only [Bk.deep]
  by_cases h : blkK s.kind
  · rw [if_pos h, if_pos h]; omega
  · rw [if_neg h, if_neg h]; omega
set_option maxRecDepth 100000 in
set_option maxHeartbeats 8000000 in
theorem sdeep_step (n : Nat) (ih : ∀ m, m < n → DeepT m) : DeepT n := by
  intro t v w hn h40 hfit hkind h ht
  subst hn
  have HL := Lib.hid h
  have IH := Lib.hid ih
  have HT := Lib.hid ht
  have HFT := Lib.hid hfit
  have HKD := Lib.hid hkind
  clear ih ht hfit hkind
  obtain ⟨A, c, rfl, _⟩ := h
  obtain ⟨R, hR⟩ : ∃ R, t.deep = R := ⟨_, rfl⟩
  rw [hR]
  have HV := Lib.hid hR
  have HLE := Lib.hid (deep_le_count t)
  have hRl : R ≤ t.count := by rw [← hR]; exact HLE.out
  clear hR
  go_enter Tryz.func32, Tryz.ntmps32
  go_wp2_with fail
  go_loopw [0, 3] (fun v d wr => ∃ (t' : Bk) (q : Nat), ReadSt wr v t'.flat ∧ d = .int .i64 q ∧ max q t'.deep = R ∧ t'.fit ∧ KindsOK t'.flat ∧ t'.count ≤ t.count ∧ Below w.heap.size w wr) (fun v _ _ => lenV v)
  case atStart => exact ⟨t, 0, HL.out, rfl, by rw [← HV.out]; simp, HFT.out, HKD.out, Nat.le_refl _, Below.refl _ _⟩
  case round =>
    obtain ⟨t', q, hr, rfl, hq, hf, hkd, hct, hb⟩ := hrel
    have HM := Lib.hid hr
    have HQ := Lib.hid hq
    have HF := Lib.hid hf
    have HK := Lib.hid hkd
    have HB := Lib.hid hb
    have HTR := Lib.hid (HT.out.on hb)
    have hqR : q ≤ 40 := by omega
    clear hf hb hkd hq
    obtain ⟨A', c', rfl, hc', hm', hr⟩ := hr
    cases t' with
    | nil =>
      have HN : Hid (q = R) := Lib.hid (by have := HQ.out; simp only [Bk.deep] at this; omega)
      clear hr
      go_wp2_with fail
      go_ret
      exact ⟨ret_int (by rw [HN.out]), HB.out⟩
    | cons s b e r =>
      obtain ⟨p1, p2, p3, p4⟩ := parts_flat s b e r HF.out
      have P1 := Lib.hid p1
      have P2 := Lib.hid p2
      have P3 := Lib.hid p3
      have P4 := Lib.hid p4
      have hfl : (Bk.cons s b e r).flat = s :: (b.flat ++ (e.flat ++ r.flat)) := rfl
      have hln : (b.flat ++ (e.flat ++ r.flat)).length = b.count + e.count + r.count := by simp only [List.length_append, flat_count]; omega
      have hcc : b.count + e.count + r.count + 1 ≤ t.count := hct
      clear p1 p2 p3 p4 hct
      rw [hfl] at HM hr hc' ⊢
      obtain ⟨g, o, AE, nE, cE, AF, nF, cF, rfl, h9⟩ := hr 0 s rfl
      have H9 := Lib.hid h9
      clear hr h9
      obtain ⟨⟨k1, k2⟩, kb, ke, kr⟩ := kinds_cons HK.out
      have KB := Lib.hid kb
      have KE := Lib.hid ke
      have KR := Lib.hid kr
      clear kb ke kr
      have HD := Lib.hid (deep_cons s b e r q)
      obtain ⟨n, hn⟩ : ∃ n : Nat, s.kind = n := ⟨s.kind.toNat, by omega⟩
      have HBK : Hid (hasC n 98 = decide (blkK s.kind)) := Lib.hid (by rw [← hn]; exact has_blk k1 k2)
      have hn15 : n < 15 := by omega
      have HNK := Lib.hid hn
      clear hn
      have hlr : (s :: (b.flat ++ (e.flat ++ r.flat))).length = (b.count + e.count + r.count) + 1 := by rw [List.length_cons, hln]
      rw [hlr] at hc' ⊢
      go_wp2_with fail
      refine (cut_says _ s (b.flat ++ (e.flat ++ r.flat)) _ (by have := HM.out; rwa [hlr] at this) P1.out (by omega)).mono ?_
      rw [P2.out, P3.out, P4.out]
      rintro e2 w2 ⟨v1, v2, v3, rfl, r1, r2, r3, hb2⟩
      have R1 := Lib.hid r1
      have R2 := Lib.hid r2
      have R3 := Lib.hid r3
      have HB2 := Lib.hid hb2
      have HT2 := Lib.hid (HTR.out.on hb2)
      have hcl := HT2.out.own hn15
      have htl := HT2.out.lt
      obtain ⟨lt9, x0, _⟩ := H9.out.on hb2
      rw [HNK.out] at x0
      simp only [Nat.zero_mul, Nat.add_zero] at x0
      clear r1 r2 r3 hb2
      go_wp2_with fail
      refine (contains_l hn15 98 _).mono ?_
      rw [HBK.out]
      by_cases hblk : blkK s.kind
      · rw [decide_eq_true hblk]
        rintro e3 w3 ⟨rfl, rfl⟩
        have HN : Hid (max (max q (max (b.deep + 1) (e.deep + 1))) r.deep = R) := Lib.hid (by rw [← HQ.out, HD.out, if_pos hblk])
        have l1 := deep_le_count b
        have l2 := deep_le_count e
        clear hblk
        go_wp2_with fail
        refine (IH.out b.count (by omega) b v1 _ rfl (by omega) HF.out.2.2.2.2.1 KB.out R1.out HT2.out).mono ?_
        generalize b.deep = db at *
        rintro e4 w4 ⟨rfl, hb4⟩
        have HB4 := Lib.hid (below_then HB2.out hb4)
        have R2' := Lib.hid (R2.out.on hb4)
        have R3' := Lib.hid (R3.out.on hb4)
        clear hb4 x0 hcl
        go_wp2_with fail
        refine (IH.out e.count (by omega) e v2 _ rfl (by omega) HF.out.2.2.2.2.2.1 KE.out R2'.out (HTR.out.on HB4.out)).mono ?_
        generalize e.deep = de at *
        rintro e5 w5 ⟨rfl, hb5⟩
        have HB5 := Lib.hid (below_then HB4.out hb5)
        have R3'' := Lib.hid (R3'.out.on hb5)
        clear hb5
        go_wp2_with fail
        all_goals
          go_roundw
          case rel => exact ⟨r, max q (max (db + 1) (de + 1)), R3''.out, congrArg (Value.int .i64) (by omega), HN.out, HF.out.2.2.2.2.2.2, KR.out, by omega, below_then HB.out HB5.out⟩
          case measure => rw [R3''.out.lenV, flat_count]; show _ < _ + 1; omega
      · rw [decide_eq_false hblk]
        rintro e3 w3 ⟨rfl, rfl⟩
        have HN : Hid (max q r.deep = R) := Lib.hid (by rw [← HQ.out, HD.out, if_neg hblk])
        clear hblk
        go_wp2_with fail
        go_roundw
        case rel => exact ⟨r, q, R3.out, rfl, HN.out, HF.out.2.2.2.2.2.2, KR.out, by omega, below_then HB.out HB2.out⟩
        case measure => rw [R3.out.lenV, flat_count]; show _ < _ + 1; omega
theorem sdeep_all : ∀ n, DeepT n := by
  intro n
  induction n using Nat.strongRecOn with
  | _ n ih => exact sdeep_step n ih
theorem form_tree {b : Bool} {L : List Stm} (h : formS b L = true) : ∃ t : Bk, treeS L = some t ∧ t.fit ∧ t.flat = L ∧ KindsOK L := by
  unfold formS at h
  cases ht : treeS L with
  | none => rw [ht] at h; cases h
  | some t =>
    rw [ht] at h
    simp only [Bool.and_eq_true] at h
    obtain ⟨h1, h2⟩ := treeS_some ht
    exact ⟨t, rfl, h1, h2, kinds_of h.1⟩
set_option maxRecDepth 100000 in
set_option maxHeartbeats 4000000 in
theorem sright_any (v : Value) (L : List Stm) (w : World) (h : ReadSt w v L) (hs : ∀ x ∈ L, SmallS x) (ht : Tabs w) : Calls Tryz.prog 16 #[v] w (TellsB (rightS L) w) := by
  have HL := Lib.hid h
  have HS := Lib.hid hs
  have HT := Lib.hid ht
  obtain ⟨A, c, rfl, _⟩ := h
  clear hs ht
  by_cases h40 : L.length ≤ 40
  · go_enter Tryz.func16, Tryz.ntmps16
    go_wp2_with fail
    refine (form_all _ L _ false _ rfl h40 HS.out HL.out HT.out).mono ?_
    cases hf : formS false L with
    | false =>
      have HN : Hid (rightS L = false) := Lib.hid (by rw [form_right, hf]; simp)
      rintro e w1 ⟨rfl, hb1⟩
      go_wp2_with fail
      go_ret
      exact ⟨ret_bool HN.out.symm, hb1⟩
    | true =>
      obtain ⟨t, h1, h2, h3, h4⟩ := form_tree hf
      have HN : Hid (rightS L = decide ((t.deep : Int) ≤ 12)) := Lib.hid (by
        rw [form_right, hf, h1, decide_eq_true h40]
        exact Bool.eq_iff_iff.2 (by simp; omega))
      subst h3
      have H2 := Lib.hid h2
      have H4 := Lib.hid h4
      clear h1 h2 h4 hf
      rintro e w1 ⟨rfl, hb1⟩
      have HB1 := Lib.hid hb1
      clear hb1
      go_wp2_with fail
      refine (sdeep_all _ t _ _ rfl (by rw [← flat_count]; exact h40) H2.out H4.out (HL.out.on HB1.out) (HT.out.on HB1.out)).mono ?_
      rintro e w2 ⟨rfl, hb2⟩
      go_wp2_with fail
      go_ret
      exact ⟨ret_bool HN.out.symm, below_then HB1.out hb2⟩
  · have HN : Hid (rightS L = false) := Lib.hid (by unfold rightS; simp [h40])
    rw [HN.out]
    go_enter Tryz.func16, Tryz.ntmps16
    go_wp2_with fail
    go_ret
    exact ⟨rfl, Below.refl _ _⟩
set_option maxRecDepth 100000 in
set_option maxHeartbeats 4000000 in
theorem sdepth_any (v : Value) (L : List Stm) (w : World) (h : ReadSt w v L) (hs : ∀ x ∈ L, SmallS x) (ht : Tabs w) : Calls Tryz.prog 20 #[v] w (GivesN (depthS L) w) := by
  have HL := Lib.hid h
  have HS := Lib.hid hs
  have HT := Lib.hid ht
  obtain ⟨A, c, rfl, _⟩ := h
  clear hs ht
  go_enter Tryz.func20, Tryz.ntmps20
  go_wp2_with fail
  refine (sright_any _ L _ HL.out HS.out HT.out).mono ?_
  cases hr : rightS L with
  | false =>
    have HN := Lib.hid (depthS_no hr)
    rintro e w1 ⟨rfl, hb1⟩
    go_wp2_with fail
    go_ret
    exact ⟨ret_int HN.out.symm, hb1⟩
  | true =>
    obtain ⟨b, hb, g1, g2, g3, g4, g5⟩ := rightS_some hr
    subst hb
    have HN : Hid (depthS b.flat = b.deep) := Lib.hid (depthS_right g1.1 hr)
    have G1 := Lib.hid g1.1
    have GK := Lib.hid (kinds_of g1.2)
    clear g1 g3 g4 g5 hr
    rintro e w1 ⟨rfl, hb1⟩
    have HB1 := Lib.hid hb1
    clear hb1
    go_wp2_with fail
    refine (sdeep_all _ b _ _ rfl g2 G1.out GK.out (HL.out.on HB1.out) (HT.out.on HB1.out)).mono ?_
    rintro e w2 ⟨rfl, hb2⟩
    go_wp2_with fail
    go_ret
    exact ⟨ret_int HN.out.symm, below_then HB1.out hb2⟩
end Go.Proofs.YtpeohfgadnfnpaaGreatDoor
/-
  DERIVED. Layer 4: the words of each kind's form; what each stands for; a statement's lines out of them; contracts of stmt.cut (read in an elder world) and stmt.meant.
-/
namespace Go.Proofs.YtpeohfgadnfnpaaGreatDoor
open Go.RowKit

def wordsTab : List (List (List UInt8)) := [[], [[114], [61], [101], [59]], [[108, 111, 97, 100], [114], [61], [110], [59]], [[115, 116, 111, 114, 101], [110], [61], [101], [59]], [[99, 97, 115], [114], [61], [110], [44], [101], [44], [102], [59]], [[102, 108, 117, 115, 104], [110], [59]], [[111, 112, 116], [110], [59]], [[115, 102, 101, 110, 99, 101], [59]], [[109, 102, 101, 110, 99, 101], [59]], [[116, 97, 107, 101], [110], [59]], [[103, 105, 118, 101], [110], [59]], [[105, 102], [101], [98]], [[108, 111, 111, 112], [107], [98]], [[98, 114, 101, 97, 107], [59]], [[99, 104, 101, 99, 107], [101], [59]]]
def wordsK (n : Nat) : List (List UInt8) := wordsTab.getD n []
theorem fields_words {n : Nat} (h : n < 15) : Lib.fields (formsT n) = wordsK n := by
  have : ∀ n : Fin 15, Lib.fields (formsT n.1) = wordsK n.1 := by decide
  exact this ⟨n, h⟩
theorem forms_ascii {n : Nat} (h : n < 15) : ∀ (j : Nat) b, (formsT n)[j]? = some b → b.toNat < 128 := by
  have : ∀ n : Fin 15, (formsT n.1).all (fun b => decide (b.toNat < 128)) = true := by decide
  intro j b hj
  exact of_decide_eq_true (List.all_eq_true.1 (this ⟨n, h⟩) b (List.mem_of_getElem? hj))
theorem forms_len {n : Nat} (h : n < 15) : (formsT n).length ≤ 20 := by
  have : ∀ n : Fin 15, (formsT n.1).length ≤ 20 := by decide
  exact this ⟨n, h⟩
theorem words_len {n : Nat} (h : n < 15) : (wordsK n).length ≤ 9 := by
  have : ∀ n : Fin 15, (wordsK n.1).length ≤ 9 := by decide
  exact this ⟨n, h⟩
theorem word_len {n k : Nat} (h : n < 15) {wd : List UInt8} (hw : (wordsK n)[k]? = some wd) : wd.length ≤ 6 := by
  have : ∀ n : Fin 15, (wordsK n.1).all (fun t => decide (t.length ≤ 6)) = true := by decide
  exact of_decide_eq_true (List.all_eq_true.1 (this ⟨n, h⟩) wd (List.mem_of_getElem? hw))
/-- What a word stands for. -/
def meantW (x : Stm) (wd : List UInt8) : List UInt8 :=
  if wd = [114] then x.reg else if wd = [110] then x.name else if wd = [101] then shownL x.e else if wd = [102] then shownL x.f else if wd = [107] then Lib.itoa x.n else wd
/-- Stands a blank before a word? -/
def sepB (k : Nat) (wd : List UInt8) : Bool := decide (0 < k) && !decide (wd = [59]) && !decide (wd = [44])
def partW (x : Stm) (blk : List UInt8) (k : Nat) (wd : List UInt8) : List UInt8 := (if sepB k wd = true then [32] else []) ++ (if wd = [98] then blk else meantW x wd)
def partsUp (ws : List (List UInt8)) (x : Stm) (blk : List UInt8) : Nat → List UInt8
  | 0 => []
  | k + 1 => partsUp ws x blk k ++ partW x blk k (ws.getD k [])
theorem partsUp_next {ws : List (List UInt8)} {k : Nat} {wd : List UInt8} (h : ws[k]? = some wd) (x : Stm) (blk : List UInt8) : partsUp ws x blk (k + 1) = partsUp ws x blk k ++ partW x blk k wd := by
  show _ ++ partW x blk k (ws.getD k []) = _
  rw [List.getD_eq_getElem?_getD, h]; rfl
theorem parts_head {x : Stm} {n : Nat} (hk : x.kind = n) (h1 : 1 ≤ n) (h2 : n ≤ 14) (blk : List UInt8) : partsUp (wordsK n) x blk (wordsK n).length = headS x ++ (if blkK x.kind then 32 :: blk else [59]) := by
  have : n = 1 ∨ n = 2 ∨ n = 3 ∨ n = 4 ∨ n = 5 ∨ n = 6 ∨ n = 7 ∨ n = 8 ∨ n = 9 ∨ n = 10 ∨ n = 11 ∨ n = 12 ∨ n = 13 ∨ n = 14 := by omega
  rcases this with rfl | rfl | rfl | rfl | rfl | rfl | rfl | rfl | rfl | rfl | rfl | rfl | rfl | rfl <;>
    simp [wordsK, wordsTab, partsUp, partW, sepB, meantW, headS, hk, blkK, kwL, kwTab]
/-- A block as a text. -/
def blockT (ind : List UInt8) (t : Bk) : List UInt8 := [123, 10] ++ (linesB (ind ++ [32, 32]) t ++ (ind ++ [125]))
def blocksT (ind : List UInt8) (b e : Bk) : List UInt8 := blockT ind b ++ (if 0 < e.count then [32, 101, 108, 115, 101, 32] ++ blockT ind e else [])
theorem lines_cons {s : Stm} {n : Nat} (hk : s.kind = n) (h1 : 1 ≤ n) (h2 : n ≤ 14) (ind : List UInt8) (b e r : Bk) : linesB ind (.cons s b e r) = ind ++ (partsUp (wordsK n) s (blocksT ind b e) (wordsK n).length ++ ([10] ++ linesB ind r)) := by
  rw [parts_head hk h1 h2]
  by_cases hb : blkK s.kind
  · simp only [linesB, blocksT, blockT, if_pos hb]
    by_cases he : 0 < e.count
    · simp [if_pos he, elseW]
    · simp [if_neg he]
  · simp only [linesB, if_neg hb]; simp
/-- What cut comes back with, read in an elder world. -/
def Gives3F (L M N : List Stm) (W w : World) (e : Ending) (w' : World) : Prop :=
  ∃ v1 v2 v3, e = .returned (.tuple #[v1, v2, v3]) ∧ ReadSt W v1 L ∧ ReadSt W v2 M ∧ ReadSt W v3 N ∧ Below w.heap.size w w'
set_option maxRecDepth 100000 in
set_option maxHeartbeats 4000000 in
theorem cut_all (v : Value) (x : Stm) (r : List Stm) (W w : World) (h : ReadSt W v (x :: r)) (hbw : Below W.heap.size W w) (hh : headOK x r.length) (hl : r.length ≤ 10000) : Calls Tryz.prog 54 #[v] w (Gives3F (bodyL x r) (elseL x r) (restL x r) W w) := by
  have HL := Lib.hid h
  obtain ⟨A, c, rfl, hc, hm, hr⟩ := h
  obtain ⟨g, o, AE, nE, cE, AF, nF, cF, rfl, h9⟩ := hr 0 x rfl
  have h9 := h9.on hbw
  clear hbw
  obtain ⟨lt9, x0, x1, x2, x3, x4, x5, x6, x7, x8, _, _⟩ := h9
  clear hr x0 x1 x2 x3 x4 x5 x8
  obtain ⟨h1, h2, h3, _⟩ := hh
  obtain ⟨b, hb⟩ : ∃ b : Nat, x.body = b := ⟨x.body.toNat, by omega⟩
  obtain ⟨e, he⟩ : ∃ e : Nat, x.els = e := ⟨x.els.toNat, by omega⟩
  rw [hb] at x6 h3
  rw [he] at x7 h3
  have HB := Lib.hid hb
  have HE := Lib.hid he
  clear hb he h1 h2
  have hlen : (x :: r).length = r.length + 1 := rfl
  rw [hlen] at hc ⊢
  have hbe : b + e ≤ r.length := by omega
  unfold maxLen at hm
  simp only [Nat.zero_mul, Nat.add_zero] at x6 x7
  have i1 : IntKind.i64.wrap (1 + (b : Int)) = 1 + b := IntWalk.i64_in _ (by omega)
  have i2 : IntKind.i64.wrap (1 + (b : Int) + e) = 1 + b + e := IntWalk.i64_in _ (by omega)
  go_enter Tryz.func54, Tryz.ntmps54
  go_wp2_with fail
  go_quiet (fail)
  generalize hA1 : (if c = 1 then some (⟨g, o, none⟩ : Addr) else some ⟨g, o + 9, none⟩) = A1
  generalize hA2 : (if c = 1 + b then some (⟨g, o, none⟩ : Addr) else some ⟨g, o + (1 + b) * 9, none⟩) = A2
  generalize hA3 : (if c = 1 + b + e then some (⟨g, o, none⟩ : Addr) else some ⟨g, o + (1 + b + e) * 9, none⟩) = A3
  have eb : x.body.toNat = b := by have := HB.out; omega
  have ee : x.els.toNat = e := by have := HE.out; omega
  have g1 : ReadSt W (.slice A1 (1 + b - 1) (c - 1)) (bodyL x r) := HL.out.cutAt (k := 1) (j := 1 + b) (by omega) (by rw [hlen]; omega) rfl rfl (fun hk => by rw [← hA1, if_neg (by omega), Nat.one_mul]) (by unfold bodyL; rw [eb, Nat.add_comm 1 b]; rfl)
  have g2 : ReadSt W (.slice A2 (1 + b + e - (1 + b)) (c - (1 + b))) (elseL x r) := HL.out.cutAt (k := 1 + b) (j := 1 + b + e) (by omega) (by rw [hlen]; omega) rfl rfl (fun hk => by rw [← hA2, if_neg (by omega)]) (by
    unfold elseL; rw [eb, ee, show 1 + b + e = (b + e) + 1 from by omega, Nat.add_comm 1 b]
    show _ = (r.take (b + e)).drop b
    rw [List.drop_take]; congr 1; omega)
  have g3 : ReadSt W (.slice A3 (r.length + 1 - (1 + b + e)) (c - (1 + b + e))) (restL x r) := HL.out.cutAt (k := 1 + b + e) (j := r.length + 1) (by omega) (by rw [hlen]; omega) rfl rfl (fun hk => by rw [← hA3, if_neg (by omega)]) (by
    unfold restL; rw [eb, ee, show 1 + b + e = (b + e) + 1 from by omega]
    show _ = ((r.take r.length).drop (b + e))
    rw [List.take_length])
  have G1 := Lib.hid g1
  have G2 := Lib.hid g2
  have G3 := Lib.hid g3
  clear g1 g2 g3 hA1 hA2 hA3
  go_wp2_with fail
  refine bodyPost_ret (v := .tuple #[.slice A1 (1 + b - 1) (c - 1), .slice A2 (1 + b + e - (1 + b)) (c - (1 + b)), .slice A3 (r.length + 1 - (1 + b + e)) (c - (1 + b + e))]) (by simp [results, Tryz.results54, go_sem]) rfl ?_
  exact ⟨_, _, _, rfl, G1.out, G2.out, G3.out, below_drew1 _ _⟩
theorem fit_len {x : Stm} (h : fitS x = true) : x.reg.length ≤ 16 ∧ x.name.length ≤ 16 ∧ (shownL x.e).length ≤ 840 ∧ (shownL x.f).length ≤ 840 ∧ (x.e.length ≤ 10000 ∧ SmallN x.e) ∧ (x.f.length ≤ 10000 ∧ SmallN x.f) ∧ 0 ≤ x.n ∧ x.n ≤ 8 := by
  obtain ⟨k, hk, h1, h2⟩ := fit_kind h
  obtain ⟨_, _, _, hr, hn, he, hf, ht⟩ := fit_inv hk h
  have nil0 : (shownL []).length ≤ 840 := by decide
  have nilN : ([] : List Nod).length ≤ 10000 ∧ SmallN [] := ⟨by simp, fun a ha => by cases ha⟩
  refine ⟨?_, ?_, ?_, ?_, ?_, ?_, ?_⟩
  · split at hr
    · exact name_len hr
    · rw [List.isEmpty_iff.1 hr]; simp
  · split at hn
    · exact name_len hn
    · rw [List.isEmpty_iff.1 hn]; simp
  · split at he
    · exact shownL_len he
    · rw [List.isEmpty_iff.1 he]; exact nil0
  · split at hf
    · exact shownL_len hf
    · rw [List.isEmpty_iff.1 hf]; exact nil0
  · split at he
    · exact right_small he
    · rw [List.isEmpty_iff.1 he]; exact nilN
  · split at hf
    · exact right_small hf
    · rw [List.isEmpty_iff.1 hf]; exact nilN
  · split at ht
    · simp at ht; omega
    · simp at ht; omega
theorem meant_len {x : Stm} {wd : List UInt8} (h : fitS x = true) (hw : wd.length ≤ 6) : (meantW x wd).length ≤ 840 := by
  obtain ⟨h1, h2, h3, h4, _, _, h5, h6⟩ := fit_len h
  unfold meantW
  split
  · omega
  split
  · omega
  split
  · omega
  split
  · omega
  split
  · have := Lib.itoa_length_le x.n (by omega) (by omega); omega
  · omega
set_option maxRecDepth 100000 in
set_option maxHeartbeats 4000000 in
theorem meant_r (x : Stm) (AE : Option Addr) (nE cE : Nat) (AF : Option Addr) (nF cF : Nat) (w : World)  : Calls Tryz.prog 61 #[.string ⟨[114].toArray⟩, .agg #[.int .i64 x.kind, .string ⟨x.reg.toArray⟩, .string ⟨x.name.toArray⟩, .slice AE nE cE, .slice AF nF cF, .int .i64 x.n, .int .i64 x.body, .int .i64 x.els, .int .i64 x.pl]] w (GivesSB x.reg w) := by
  go_enter Tryz.func61, Tryz.ntmps61
  go_upto_region 1 with (fail)
  have hbx := (Below.refl w.heap.size w).alloc (Nat.le_refl _) (.cells #[.int .i64 x.kind, .string ⟨x.reg.toArray⟩, .string ⟨x.name.toArray⟩, .slice AE nE cE, .slice AF nF cF, .int .i64 x.n, .int .i64 x.body, .int .i64 x.els, .int .i64 x.pl] 31)
  have HB0 := Lib.hid hbx
  have N9 := Lib.hid (nine_new w (.int .i64 x.kind) (.string ⟨x.reg.toArray⟩) (.string ⟨x.name.toArray⟩) (.slice AE nE cE) (.slice AF nF cF) (.int .i64 x.n) (.int .i64 x.body) (.int .i64 x.els) (.int .i64 x.pl) 31)
  clear hbx
  generalize w.alloc (.cells #[.int .i64 x.kind, .string ⟨x.reg.toArray⟩, .string ⟨x.name.toArray⟩, .slice AE nE cE, .slice AF nF cF, .int .i64 x.n, .int .i64 x.body, .int .i64 x.els, .int .i64 x.pl] 31) = W at *
  obtain ⟨hW, y0, y1, y2, y3, y4, y5, _, _, _⟩ := N9.out
  go_wp2_with fail
  go_ret
  exact ⟨rfl, HB0.out⟩
set_option maxRecDepth 100000 in
set_option maxHeartbeats 4000000 in
theorem meant_n (x : Stm) (AE : Option Addr) (nE cE : Nat) (AF : Option Addr) (nF cF : Nat) (w : World)  : Calls Tryz.prog 61 #[.string ⟨[110].toArray⟩, .agg #[.int .i64 x.kind, .string ⟨x.reg.toArray⟩, .string ⟨x.name.toArray⟩, .slice AE nE cE, .slice AF nF cF, .int .i64 x.n, .int .i64 x.body, .int .i64 x.els, .int .i64 x.pl]] w (GivesSB x.name w) := by
  go_enter Tryz.func61, Tryz.ntmps61
  go_upto_region 1 with (fail)
  have hbx := (Below.refl w.heap.size w).alloc (Nat.le_refl _) (.cells #[.int .i64 x.kind, .string ⟨x.reg.toArray⟩, .string ⟨x.name.toArray⟩, .slice AE nE cE, .slice AF nF cF, .int .i64 x.n, .int .i64 x.body, .int .i64 x.els, .int .i64 x.pl] 31)
  have HB0 := Lib.hid hbx
  have N9 := Lib.hid (nine_new w (.int .i64 x.kind) (.string ⟨x.reg.toArray⟩) (.string ⟨x.name.toArray⟩) (.slice AE nE cE) (.slice AF nF cF) (.int .i64 x.n) (.int .i64 x.body) (.int .i64 x.els) (.int .i64 x.pl) 31)
  clear hbx
  generalize w.alloc (.cells #[.int .i64 x.kind, .string ⟨x.reg.toArray⟩, .string ⟨x.name.toArray⟩, .slice AE nE cE, .slice AF nF cF, .int .i64 x.n, .int .i64 x.body, .int .i64 x.els, .int .i64 x.pl] 31) = W at *
  obtain ⟨hW, y0, y1, y2, y3, y4, y5, _, _, _⟩ := N9.out
  go_wp2_with fail
  go_ret
  exact ⟨rfl, HB0.out⟩
set_option maxRecDepth 100000 in
set_option maxHeartbeats 4000000 in
theorem meant_e (x : Stm) (AE : Option Addr) (nE cE : Nat) (AF : Option Addr) (nF cF : Nat) (w : World) (hE : ReadN w (.slice AE nE cE) x.e) (hl : x.e.length ≤ 10000) (hs : SmallN x.e) (ht : Tabs w) : Calls Tryz.prog 61 #[.string ⟨[101].toArray⟩, .agg #[.int .i64 x.kind, .string ⟨x.reg.toArray⟩, .string ⟨x.name.toArray⟩, .slice AE nE cE, .slice AF nF cF, .int .i64 x.n, .int .i64 x.body, .int .i64 x.els, .int .i64 x.pl]] w (GivesSB (shownL x.e) w) := by
  go_enter Tryz.func61, Tryz.ntmps61
  go_upto_region 1 with (fail)
  have hbx := (Below.refl w.heap.size w).alloc (Nat.le_refl _) (.cells #[.int .i64 x.kind, .string ⟨x.reg.toArray⟩, .string ⟨x.name.toArray⟩, .slice AE nE cE, .slice AF nF cF, .int .i64 x.n, .int .i64 x.body, .int .i64 x.els, .int .i64 x.pl] 31)
  have HB0 := Lib.hid hbx
  have HR := Lib.hid (hE.on hbx)
  have HT := Lib.hid (ht.on hbx)
  clear hE ht
  have N9 := Lib.hid (nine_new w (.int .i64 x.kind) (.string ⟨x.reg.toArray⟩) (.string ⟨x.name.toArray⟩) (.slice AE nE cE) (.slice AF nF cF) (.int .i64 x.n) (.int .i64 x.body) (.int .i64 x.els) (.int .i64 x.pl) 31)
  clear hbx
  generalize w.alloc (.cells #[.int .i64 x.kind, .string ⟨x.reg.toArray⟩, .string ⟨x.name.toArray⟩, .slice AE nE cE, .slice AF nF cF, .int .i64 x.n, .int .i64 x.body, .int .i64 x.els, .int .i64 x.pl] 31) = W at *
  obtain ⟨hW, y0, y1, y2, y3, y4, y5, _, _, _⟩ := N9.out
  go_wp2_with fail
  refine (show_any _ x.e _ HR.out hl hs HT.out).mono ?_
  rintro e w1 ⟨rfl, hb⟩
  go_wp2_with fail
  go_ret
  exact ⟨rfl, below_then HB0.out hb⟩
set_option maxRecDepth 100000 in
set_option maxHeartbeats 4000000 in
theorem meant_f (x : Stm) (AE : Option Addr) (nE cE : Nat) (AF : Option Addr) (nF cF : Nat) (w : World) (hE : ReadN w (.slice AF nF cF) x.f) (hl : x.f.length ≤ 10000) (hs : SmallN x.f) (ht : Tabs w) : Calls Tryz.prog 61 #[.string ⟨[102].toArray⟩, .agg #[.int .i64 x.kind, .string ⟨x.reg.toArray⟩, .string ⟨x.name.toArray⟩, .slice AE nE cE, .slice AF nF cF, .int .i64 x.n, .int .i64 x.body, .int .i64 x.els, .int .i64 x.pl]] w (GivesSB (shownL x.f) w) := by
  go_enter Tryz.func61, Tryz.ntmps61
  go_upto_region 1 with (fail)
  have hbx := (Below.refl w.heap.size w).alloc (Nat.le_refl _) (.cells #[.int .i64 x.kind, .string ⟨x.reg.toArray⟩, .string ⟨x.name.toArray⟩, .slice AE nE cE, .slice AF nF cF, .int .i64 x.n, .int .i64 x.body, .int .i64 x.els, .int .i64 x.pl] 31)
  have HB0 := Lib.hid hbx
  have HR := Lib.hid (hE.on hbx)
  have HT := Lib.hid (ht.on hbx)
  clear hE ht
  have N9 := Lib.hid (nine_new w (.int .i64 x.kind) (.string ⟨x.reg.toArray⟩) (.string ⟨x.name.toArray⟩) (.slice AE nE cE) (.slice AF nF cF) (.int .i64 x.n) (.int .i64 x.body) (.int .i64 x.els) (.int .i64 x.pl) 31)
  clear hbx
  generalize w.alloc (.cells #[.int .i64 x.kind, .string ⟨x.reg.toArray⟩, .string ⟨x.name.toArray⟩, .slice AE nE cE, .slice AF nF cF, .int .i64 x.n, .int .i64 x.body, .int .i64 x.els, .int .i64 x.pl] 31) = W at *
  obtain ⟨hW, y0, y1, y2, y3, y4, y5, _, _, _⟩ := N9.out
  go_wp2_with fail
  refine (show_any _ x.f _ HR.out hl hs HT.out).mono ?_
  rintro e w1 ⟨rfl, hb⟩
  go_wp2_with fail
  go_ret
  exact ⟨rfl, below_then HB0.out hb⟩
set_option maxRecDepth 100000 in
set_option maxHeartbeats 4000000 in
theorem meant_k (x : Stm) (AE : Option Addr) (nE cE : Nat) (AF : Option Addr) (nF cF : Nat) (w : World) (hn0 : 0 ≤ x.n) (hn1 : x.n ≤ 8) (ht : Tabs w) : Calls Tryz.prog 61 #[.string ⟨[107].toArray⟩, .agg #[.int .i64 x.kind, .string ⟨x.reg.toArray⟩, .string ⟨x.name.toArray⟩, .slice AE nE cE, .slice AF nF cF, .int .i64 x.n, .int .i64 x.body, .int .i64 x.els, .int .i64 x.pl]] w (GivesSB (Lib.itoa x.n) w) := by
  go_enter Tryz.func61, Tryz.ntmps61
  go_upto_region 1 with (fail)
  have hbx := (Below.refl w.heap.size w).alloc (Nat.le_refl _) (.cells #[.int .i64 x.kind, .string ⟨x.reg.toArray⟩, .string ⟨x.name.toArray⟩, .slice AE nE cE, .slice AF nF cF, .int .i64 x.n, .int .i64 x.body, .int .i64 x.els, .int .i64 x.pl] 31)
  have HB0 := Lib.hid hbx
  have HT := Lib.hid (ht.on hbx)
  clear ht
  have N9 := Lib.hid (nine_new w (.int .i64 x.kind) (.string ⟨x.reg.toArray⟩) (.string ⟨x.name.toArray⟩) (.slice AE nE cE) (.slice AF nF cF) (.int .i64 x.n) (.int .i64 x.body) (.int .i64 x.els) (.int .i64 x.pl) 31)
  clear hbx
  generalize w.alloc (.cells #[.int .i64 x.kind, .string ⟨x.reg.toArray⟩, .string ⟨x.name.toArray⟩, .slice AE nE cE, .slice AF nF cF, .int .i64 x.n, .int .i64 x.body, .int .i64 x.els, .int .i64 x.pl] 31) = W at *
  obtain ⟨hW, y0, y1, y2, y3, y4, y5, _, _, _⟩ := N9.out
  go_wp2_with fail
  refine (wtext_any x.n (by omega) (by omega) _ HT.out).mono ?_
  rintro e w1 ⟨rfl, hb⟩
  go_wp2_with fail
  go_ret
  exact ⟨rfl, below_then HB0.out hb⟩
set_option maxRecDepth 100000 in
set_option maxHeartbeats 4000000 in
theorem meant_o (x : Stm) (wd : List UInt8) (AE : Option Addr) (nE cE : Nat) (AF : Option Addr) (nF cF : Nat) (w : World) (h1 : (wd == [114]) = false) (h2 : (wd == [110]) = false) (h3 : (wd == [101]) = false) (h4 : (wd == [102]) = false) (h5 : (wd == [107]) = false) : Calls Tryz.prog 61 #[.string ⟨wd.toArray⟩, .agg #[.int .i64 x.kind, .string ⟨x.reg.toArray⟩, .string ⟨x.name.toArray⟩, .slice AE nE cE, .slice AF nF cF, .int .i64 x.n, .int .i64 x.body, .int .i64 x.els, .int .i64 x.pl]] w (GivesSB wd w) := by
  go_enter Tryz.func61, Tryz.ntmps61
  go_upto_region 1 with (fail)
  have hbx := (Below.refl w.heap.size w).alloc (Nat.le_refl _) (.cells #[.int .i64 x.kind, .string ⟨x.reg.toArray⟩, .string ⟨x.name.toArray⟩, .slice AE nE cE, .slice AF nF cF, .int .i64 x.n, .int .i64 x.body, .int .i64 x.els, .int .i64 x.pl] 31)
  have HB0 := Lib.hid hbx
  have N9 := Lib.hid (nine_new w (.int .i64 x.kind) (.string ⟨x.reg.toArray⟩) (.string ⟨x.name.toArray⟩) (.slice AE nE cE) (.slice AF nF cF) (.int .i64 x.n) (.int .i64 x.body) (.int .i64 x.els) (.int .i64 x.pl) 31)
  clear hbx
  generalize w.alloc (.cells #[.int .i64 x.kind, .string ⟨x.reg.toArray⟩, .string ⟨x.name.toArray⟩, .slice AE nE cE, .slice AF nF cF, .int .i64 x.n, .int .i64 x.body, .int .i64 x.els, .int .i64 x.pl] 31) = W at *
  obtain ⟨hW, y0, y1, y2, y3, y4, y5, _, _, _⟩ := N9.out
  go_wp2_with fail
  go_ret
  exact ⟨rfl, HB0.out⟩
theorem meant_any (x : Stm) (wd : List UInt8) (AE : Option Addr) (nE cE : Nat) (AF : Option Addr) (nF cF : Nat) (w : World) (hE : ReadN w (.slice AE nE cE) x.e) (hF : ReadN w (.slice AF nF cF) x.f) (hf : fitS x = true) (ht : Tabs w) : Calls Tryz.prog 61 #[.string ⟨wd.toArray⟩, .agg #[.int .i64 x.kind, .string ⟨x.reg.toArray⟩, .string ⟨x.name.toArray⟩, .slice AE nE cE, .slice AF nF cF, .int .i64 x.n, .int .i64 x.body, .int .i64 x.els, .int .i64 x.pl]] w (GivesSB (meantW x wd) w) := by
  obtain ⟨_, _, _, _, ⟨g1, g2⟩, ⟨g3, g4⟩, g5, g6⟩ := fit_len hf
  unfold meantW
  split
  · rename_i h; subst h; exact meant_r x AE nE cE AF nF cF w
  split
  · rename_i h; subst h; exact meant_n x AE nE cE AF nF cF w
  split
  · rename_i h; subst h; exact meant_e x AE nE cE AF nF cF w hE g1 g2 ht
  split
  · rename_i h; subst h; exact meant_f x AE nE cE AF nF cF w hF g3 g4 ht
  split
  · rename_i h; subst h; exact meant_k x AE nE cE AF nF cF w g5 g6 ht
  · rename_i h1 h2 h3 h4 h5
    exact meant_o x wd AE nE cE AF nF cF w (beq_eq_false_iff_ne.2 h1) (beq_eq_false_iff_ne.2 h2) (beq_eq_false_iff_ne.2 h3) (beq_eq_false_iff_ne.2 h4) (beq_eq_false_iff_ne.2 h5)
end Go.Proofs.YtpeohfgadnfnpaaGreatDoor
