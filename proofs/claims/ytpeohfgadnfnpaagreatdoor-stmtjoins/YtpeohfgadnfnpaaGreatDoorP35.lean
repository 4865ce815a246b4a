/-
  DERIVED. Texts of the walk, packed: SMeant, RefShow.
-/
import Derived.Test.YtpeohfgadnfnpaaGreatDoorP29
import Derived.Test.YtpeohfgadnfnpaaGreatDoorP34
import Derived.Test.YtpeohfgadnfnpaaGreatDoorP24
import Derived.Test.YtpeohfgadnfnpaaGreatDoorP03
/-
  DERIVED. Layer 4: the words of each kind's form; what each stands for; a statement's lines out of them; contracts of stmt.cut (read in an elder world) and stmt.meant.
-/
namespace Go.Proofs.YtpeohfgadnfnpaaGreatDoor
open Go.RowKit

def wordsTab : List (List (List UInt8)) := [[], [[114], [61], [101], [59]], [[108, 111, 97, 100], [114], [61], [110], [59]], [[115, 116, 111, 114, 101], [110], [61], [101], [59]], [[99, 97, 115], [114], [61], [110], [44], [101], [44], [102], [59]], [[102, 108, 117, 115, 104], [110], [59]], [[111, 112, 116], [110], [59]], [[115, 102, 101, 110, 99, 101], [59]], [[109, 102, 101, 110, 99, 101], [59]], [[116, 97, 107, 101], [110], [59]], [[103, 105, 118, 101], [110], [59]], [[105, 102], [101], [98]], [[108, 111, 111, 112], [107], [98]], [[98, 114, 101, 97, 107], [59]], [[99, 104, 101, 99, 107], [101], [59]]]
def wordsK (n : Nat) : List (List UInt8) := wordsTab.getD n []
theorem fields_words {n : Nat} (h : n < 15) : Lib.fields (formsT n) = wordsK n := by
  have : ∀ n : Fin 15, Lib.fields (formsT n.1) = wordsK n.1 := by decide
  exact this ⟨n, h⟩
theorem forms_ascii {n : Nat} (h : n < 15) : ∀ (j : Nat) b, (formsT n)[j]? = some b → b.toNat < 128 := by
  have : ∀ n : Fin 15, (formsT n.1).all (fun b => decide (b.toNat < 128)) = true := by decide
  intro j b hj
  exact of_decide_eq_true (List.all_eq_true.1 (this ⟨n, h⟩) b (List.mem_of_getElem? hj))
theorem forms_len {n : Nat} (h : n < 15) : (formsT n).length ≤ 20 := by
  have : ∀ n : Fin 15, (formsT n.1).length ≤ 20 := by decide
  exact this ⟨n, h⟩
theorem words_len {n : Nat} (h : n < 15) : (wordsK n).length ≤ 9 := by
  have : ∀ n : Fin 15, (wordsK n.1).length ≤ 9 := by decide
  exact this ⟨n, h⟩
theorem word_len {n k : Nat} (h : n < 15) {wd : List UInt8} (hw : (wordsK n)[k]? = some wd) : wd.length ≤ 6 := by
  have : ∀ n : Fin 15, (wordsK n.1).all (fun t => decide (t.length ≤ 6)) = true := by decide
  exact of_decide_eq_true (List.all_eq_true.1 (this ⟨n, h⟩) wd (List.mem_of_getElem? hw))
/-- What a word stands for. -/
def meantW (x : Stm) (wd : List UInt8) : List UInt8 :=
  if wd = [114] then x.reg else if wd = [110] then x.name else if wd = [101] then shownL x.e else if wd = [102] then shownL x.f else if wd = [107] then Lib.itoa x.n else wd
/-- Stands a blank before a word? -/
def sepB (k : Nat) (wd : List UInt8) : Bool := decide (0 < k) && !decide (wd = [59]) && !decide (wd = [44])
def partW (x : Stm) (blk : List UInt8) (k : Nat) (wd : List UInt8) : List UInt8 := (if sepB k wd = true then [32] else []) ++ (if wd = [98] then blk else meantW x wd)
def partsUp (ws : List (List UInt8)) (x : Stm) (blk : List UInt8) : Nat → List UInt8
  | 0 => []
  | k + 1 => partsUp ws x blk k ++ partW x blk k (ws.getD k [])
theorem partsUp_next {ws : List (List UInt8)} {k : Nat} {wd : List UInt8} (h : ws[k]? = some wd) (x : Stm) (blk : List UInt8) : partsUp ws x blk (k + 1) = partsUp ws x blk k ++ partW x blk k wd := by
  show _ ++ partW x blk k (ws.getD k []) = _
  rw [List.getD_eq_getElem?_getD, h]; rfl
theorem parts_head {x : Stm} {n : Nat} (hk : x.kind = n) (h1 : 1 ≤ n) (h2 : n ≤ 14) (blk : List UInt8) : partsUp (wordsK n) x blk (wordsK n).length = headS x ++ (if blkK x.kind then 32 :: blk else [59]) := by
  have : n = 1 ∨ n = 2 ∨ n = 3 ∨ n = 4 ∨ n = 5 ∨ n = 6 ∨ n = 7 ∨ n = 8 ∨ n = 9 ∨ n = 10 ∨ n = 11 ∨ n = 12 ∨ n = 13 ∨ n = 14 := by omega
  rcases this with rfl | rfl | rfl | rfl | rfl | rfl | rfl | rfl | rfl | rfl | rfl | rfl | rfl | rfl <;>
    simp [wordsK, wordsTab, partsUp, partW, sepB, meantW, headS, hk, blkK, kwL, kwTab]
/-- A block as a text. -/
def blockT (ind : List UInt8) (t : Bk) : List UInt8 := [123, 10] ++ (linesB (ind ++ [32, 32]) t ++ (ind ++ [125]))
def blocksT (ind : List UInt8) (b e : Bk) : List UInt8 := blockT ind b ++ (if 0 < e.count then [32, 101, 108, 115, 101, 32] ++ blockT ind e else [])
theorem lines_cons {s : Stm} {n : Nat} (hk : s.kind = n) (h1 : 1 ≤ n) (h2 : n ≤ 14) (ind : List UInt8) (b e r : Bk) : linesB ind (.cons s b e r) = ind ++ (partsUp (wordsK n) s (blocksT ind b e) (wordsK n).length ++ ([10] ++ linesB ind r)) := by
  rw [parts_head hk h1 h2]
  by_cases hb : blkK s.kind
  · simp only [linesB, blocksT, blockT, if_pos hb]
    by_cases he : 0 < e.count
    · simp [if_pos he, elseW]
    · simp [if_neg he]
  · simp only [linesB, if_neg hb]; simp
/-- What cut comes back with, read in an elder world. -/
def Gives3F (L M N : List Stm) (W w : World) (e : Ending) (w' : World) : Prop :=
  ∃ v1 v2 v3, e = .returned (.tuple #[v1, v2, v3]) ∧ ReadSt W v1 L ∧ ReadSt W v2 M ∧ ReadSt W v3 N ∧ Below w.heap.size w w'
set_option maxRecDepth 100000 in
set_option maxHeartbeats 4000000 in
theorem cut_all (v : Value) (x : Stm) (r : List Stm) (W w : World) (h : ReadSt W v (x :: r)) (hbw : Below W.heap.size W w) (hh : headOK x r.length) (hl : r.length ≤ 10000) : Calls Tryz.prog 54 #[v] w (Gives3F (bodyL x r) (elseL x r) (restL x r) W w) := by
  have HL := Lib.hid h
  obtain ⟨A, c, rfl, hc, hm, hr⟩ := h
  obtain ⟨g, o, AE, nE, cE, AF, nF, cF, rfl, h9⟩ := hr 0 x rfl
  have h9 := h9.on hbw
  clear hbw
  obtain ⟨lt9, x0, x1, x2, x3, x4, x5, x6, x7, x8, _, _⟩ := h9
  clear hr x0 x1 x2 x3 x4 x5 x8
  obtain ⟨h1, h2, h3, _⟩ := hh
  obtain ⟨b, hb⟩ : ∃ b : Nat, x.body = b := ⟨x.body.toNat, by omega⟩
  obtain ⟨e, he⟩ : ∃ e : Nat, x.els = e := ⟨x.els.toNat, by omega⟩
  rw [hb] at x6 h3
  rw [he] at x7 h3
  have HB := Lib.hid hb
  have HE := Lib.hid he
  clear hb he h1 h2
  have hlen : (x :: r).length = r.length + 1 := rfl
  rw [hlen] at hc ⊢
  have hbe : b + e ≤ r.length := by omega
  unfold maxLen at hm
  simp only [Nat.zero_mul, Nat.add_zero] at x6 x7
  have i1 : IntKind.i64.wrap (1 + (b : Int)) = 1 + b := IntWalk.i64_in _ (by omega)
  have i2 : IntKind.i64.wrap (1 + (b : Int) + e) = 1 + b + e := IntWalk.i64_in _ (by omega)
  go_enter Tryz.func54, Tryz.ntmps54
  go_wp2_with fail
  go_quiet (fail)
  generalize hA1 : (if c = 1 then some (⟨g, o, none⟩ : Addr) else some ⟨g, o + 9, none⟩) = A1
  generalize hA2 : (if c = 1 + b then some (⟨g, o, none⟩ : Addr) else some ⟨g, o + (1 + b) * 9, none⟩) = A2
  generalize hA3 : (if c = 1 + b + e then some (⟨g, o, none⟩ : Addr) else some ⟨g, o + (1 + b + e) * 9, none⟩) = A3
  have eb : x.body.toNat = b := by have := HB.out; omega
  have ee : x.els.toNat = e := by have := HE.out; omega
  have g1 : ReadSt W (.slice A1 (1 + b - 1) (c - 1)) (bodyL x r) := HL.out.cutAt (k := 1) (j := 1 + b) (by omega) (by rw [hlen]; omega) rfl rfl (fun hk => by rw [← hA1, if_neg (by omega), Nat.one_mul]) (by unfold bodyL; rw [eb, Nat.add_comm 1 b]; rfl)
  have g2 : ReadSt W (.slice A2 (1 + b + e - (1 + b)) (c - (1 + b))) (elseL x r) := HL.out.cutAt (k := 1 + b) (j := 1 + b + e) (by omega) (by rw [hlen]; omega) rfl rfl (fun hk => by rw [← hA2, if_neg (by omega)]) (by
    unfold elseL; rw [eb, ee, show 1 + b + e = (b + e) + 1 from by omega, Nat.add_comm 1 b]
    show _ = (r.take (b + e)).drop b
    rw [List.drop_take]; congr 1; omega)
  have g3 : ReadSt W (.slice A3 (r.length + 1 - (1 + b + e)) (c - (1 + b + e))) (restL x r) := HL.out.cutAt (k := 1 + b + e) (j := r.length + 1) (by omega) (by rw [hlen]; omega) rfl rfl (fun hk => by rw [← hA3, if_neg (by omega)]) (by
    unfold restL; rw [eb, ee, show 1 + b + e = (b + e) + 1 from by omega]
    show _ = ((r.take r.length).drop (b + e))
    rw [List.take_length])
  have G1 := Lib.hid g1
  have G2 := Lib.hid g2
  have G3 := Lib.hid g3
  clear g1 g2 g3 hA1 hA2 hA3
  go_wp2_with fail
  refine bodyPost_ret (v := .tuple #[.slice A1 (1 + b - 1) (c - 1), .slice A2 (1 + b + e - (1 + b)) (c - (1 + b)), .slice A3 (r.length + 1 - (1 + b + e)) (c - (1 + b + e))]) (by simp [results, Tryz.results54, go_sem]) rfl ?_
  exact ⟨_, _, _, rfl, G1.out, G2.out, G3.out, below_drew1 _ _⟩
theorem fit_len {x : Stm} (h : fitS x = true) : x.reg.length ≤ 16 ∧ x.name.length ≤ 16 ∧ (shownL x.e).length ≤ 840 ∧ (shownL x.f).length ≤ 840 ∧ (x.e.length ≤ 10000 ∧ SmallN x.e) ∧ (x.f.length ≤ 10000 ∧ SmallN x.f) ∧ 0 ≤ x.n ∧ x.n ≤ 8 := by
  obtain ⟨k, hk, h1, h2⟩ := fit_kind h
  obtain ⟨_, _, _, hr, hn, he, hf, ht⟩ := fit_inv hk h
  have nil0 : (shownL []).length ≤ 840 := by decide
  have nilN : ([] : List Nod).length ≤ 10000 ∧ SmallN [] := ⟨by simp, fun a ha => by cases ha⟩
  refine ⟨?_, ?_, ?_, ?_, ?_, ?_, ?_⟩
  · split at hr
    · exact name_len hr
    · rw [List.isEmpty_iff.1 hr]; simp
  · split at hn
    · exact name_len hn
    · rw [List.isEmpty_iff.1 hn]; simp
  · split at he
    · exact shownL_len he
    · rw [List.isEmpty_iff.1 he]; exact nil0
  · split at hf
    · exact shownL_len hf
    · rw [List.isEmpty_iff.1 hf]; exact nil0
  · split at he
    · exact right_small he
    · rw [List.isEmpty_iff.1 he]; exact nilN
  · split at hf
    · exact right_small hf
    · rw [List.isEmpty_iff.1 hf]; exact nilN
  · split at ht
    · simp at ht; omega
    · simp at ht; omega
theorem meant_len {x : Stm} {wd : List UInt8} (h : fitS x = true) (hw : wd.length ≤ 6) : (meantW x wd).length ≤ 840 := by
  obtain ⟨h1, h2, h3, h4, _, _, h5, h6⟩ := fit_len h
  unfold meantW
  split
  · omega
  split
  · omega
  split
  · omega
  split
  · omega
  split
  · have := Lib.itoa_length_le x.n (by omega) (by omega); omega
  · omega
set_option maxRecDepth 100000 in
set_option maxHeartbeats 4000000 in
theorem meant_r (x : Stm) (AE : Option Addr) (nE cE : Nat) (AF : Option Addr) (nF cF : Nat) (w : World)  : Calls Tryz.prog 61 #[.string ⟨[114].toArray⟩, .agg #[.int .i64 x.kind, .string ⟨x.reg.toArray⟩, .string ⟨x.name.toArray⟩, .slice AE nE cE, .slice AF nF cF, .int .i64 x.n, .int .i64 x.body, .int .i64 x.els, .int .i64 x.pl]] w (GivesSB x.reg w) := by
  go_enter Tryz.func61, Tryz.ntmps61
  go_upto_region 1 with (fail)
  have hbx := (Below.refl w.heap.size w).alloc (Nat.le_refl _) (.cells #[.int .i64 x.kind, .string ⟨x.reg.toArray⟩, .string ⟨x.name.toArray⟩, .slice AE nE cE, .slice AF nF cF, .int .i64 x.n, .int .i64 x.body, .int .i64 x.els, .int .i64 x.pl] 31)
  have HB0 := Lib.hid hbx
  have N9 := Lib.hid (nine_new w (.int .i64 x.kind) (.string ⟨x.reg.toArray⟩) (.string ⟨x.name.toArray⟩) (.slice AE nE cE) (.slice AF nF cF) (.int .i64 x.n) (.int .i64 x.body) (.int .i64 x.els) (.int .i64 x.pl) 31)
  clear hbx
  generalize w.alloc (.cells #[.int .i64 x.kind, .string ⟨x.reg.toArray⟩, .string ⟨x.name.toArray⟩, .slice AE nE cE, .slice AF nF cF, .int .i64 x.n, .int .i64 x.body, .int .i64 x.els, .int .i64 x.pl] 31) = W at *
  obtain ⟨hW, y0, y1, y2, y3, y4, y5, _, _, _⟩ := N9.out
  go_wp2_with fail
  go_ret
  exact ⟨rfl, HB0.out⟩
set_option maxRecDepth 100000 in
set_option maxHeartbeats 4000000 in
theorem meant_n (x : Stm) (AE : Option Addr) (nE cE : Nat) (AF : Option Addr) (nF cF : Nat) (w : World)  : Calls Tryz.prog 61 #[.string ⟨[110].toArray⟩, .agg #[.int .i64 x.kind, .string ⟨x.reg.toArray⟩, .string ⟨x.name.toArray⟩, .slice AE nE cE, .slice AF nF cF, .int .i64 x.n, .int .i64 x.body, .int .i64 x.els, .int .i64 x.pl]] w (GivesSB x.name w) := by
  go_enter Tryz.func61, Tryz.ntmps61
  go_upto_region 1 with (fail)
  have hbx := (Below.refl w.heap.size w).alloc (Nat.le_refl _) (.cells #[.int .i64 x.kind, .string ⟨x.reg.toArray⟩, .string ⟨x.name.toArray⟩, .slice AE nE cE, .slice AF nF cF, .int .i64 x.n, .int .i64 x.body, .int .i64 x.els, .int .i64 x.pl] 31)
  have HB0 := Lib.hid hbx
  have N9 := Lib.hid (nine_new w (.int .i64 x.kind) (.string ⟨x.reg.toArray⟩) (.string ⟨x.name.toArray⟩) (.slice AE nE cE) (.slice AF nF cF) (.int .i64 x.n) (.int .i64 x.body) (.int .i64 x.els) (.int .i64 x.pl) 31)
  clear hbx
  generalize w.alloc (.cells #[.int .i64 x.kind, .string ⟨x.reg.toArray⟩, .string ⟨x.name.toArray⟩, .slice AE nE cE, .slice AF nF cF, .int .i64 x.n, .int .i64 x.body, .int .i64 x.els, .int .i64 x.pl] 31) = W at *
  obtain ⟨hW, y0, y1, y2, y3, y4, y5, _, _, _⟩ := N9.out
  go_wp2_with fail
  go_ret
  exact ⟨rfl, HB0.out⟩
set_option maxRecDepth 100000 in
set_option maxHeartbeats 4000000 in
theorem meant_e (x : Stm) (AE : Option Addr) (nE cE : Nat) (AF : Option Addr) (nF cF : Nat) (w : World) (hE : ReadN w (.slice AE nE cE) x.e) (hl : x.e.length ≤ 10000) (hs : SmallN x.e) (ht : Tabs w) : Calls Tryz.prog 61 #[.string ⟨[101].toArray⟩, .agg #[.int .i64 x.kind, .string ⟨x.reg.toArray⟩, .string ⟨x.name.toArray⟩, .slice AE nE cE, .slice AF nF cF, .int .i64 x.n, .int .i64 x.body, .int .i64 x.els, .int .i64 x.pl]] w (GivesSB (shownL x.e) w) := by
  go_enter Tryz.func61, Tryz.ntmps61
  go_upto_region 1 with (fail)
  have hbx := (Below.refl w.heap.size w).alloc (Nat.le_refl _) (.cells #[.int .i64 x.kind, .string ⟨x.reg.toArray⟩, .string ⟨x.name.toArray⟩, .slice AE nE cE, .slice AF nF cF, .int .i64 x.n, .int .i64 x.body, .int .i64 x.els, .int .i64 x.pl] 31)
  have HB0 := Lib.hid hbx
  have HR := Lib.hid (hE.on hbx)
  have HT := Lib.hid (ht.on hbx)
  clear hE ht
  have N9 := Lib.hid (nine_new w (.int .i64 x.kind) (.string ⟨x.reg.toArray⟩) (.string ⟨x.name.toArray⟩) (.slice AE nE cE) (.slice AF nF cF) (.int .i64 x.n) (.int .i64 x.body) (.int .i64 x.els) (.int .i64 x.pl) 31)
  clear hbx
  generalize w.alloc (.cells #[.int .i64 x.kind, .string ⟨x.reg.toArray⟩, .string ⟨x.name.toArray⟩, .slice AE nE cE, .slice AF nF cF, .int .i64 x.n, .int .i64 x.body, .int .i64 x.els, .int .i64 x.pl] 31) = W at *
  obtain ⟨hW, y0, y1, y2, y3, y4, y5, _, _, _⟩ := N9.out
  go_wp2_with fail
  refine (show_any _ x.e _ HR.out hl hs HT.out).mono ?_
  rintro e w1 ⟨rfl, hb⟩
  go_wp2_with fail
  go_ret
  exact ⟨rfl, below_then HB0.out hb⟩
set_option maxRecDepth 100000 in
set_option maxHeartbeats 4000000 in
theorem meant_f (x : Stm) (AE : Option Addr) (nE cE : Nat) (AF : Option Addr) (nF cF : Nat) (w : World) (hE : ReadN w (.slice AF nF cF) x.f) (hl : x.f.length ≤ 10000) (hs : SmallN x.f) (ht : Tabs w) : Calls Tryz.prog 61 #[.string ⟨[102].toArray⟩, .agg #[.int .i64 x.kind, .string ⟨x.reg.toArray⟩, .string ⟨x.name.toArray⟩, .slice AE nE cE, .slice AF nF cF, .int .i64 x.n, .int .i64 x.body, .int .i64 x.els, .int .i64 x.pl]] w (GivesSB (shownL x.f) w) := by
  go_enter Tryz.func61, Tryz.ntmps61
  go_upto_region 1 with (fail)
  have hbx := (Below.refl w.heap.size w).alloc (Nat.le_refl _) (.cells #[.int .i64 x.kind, .string ⟨x.reg.toArray⟩, .string ⟨x.name.toArray⟩, .slice AE nE cE, .slice AF nF cF, .int .i64 x.n, .int .i64 x.body, .int .i64 x.els, .int .i64 x.pl] 31)
  have HB0 := Lib.hid hbx
  have HR := Lib.hid (hE.on hbx)
  have HT := Lib.hid (ht.on hbx)
  clear hE ht
  have N9 := Lib.hid (nine_new w (.int .i64 x.kind) (.string ⟨x.reg.toArray⟩) (.string ⟨x.name.toArray⟩) (.slice AE nE cE) (.slice AF nF cF) (.int .i64 x.n) (.int .i64 x.body) (.int .i64 x.els) (.int .i64 x.pl) 31)
  clear hbx
  generalize w.alloc (.cells #[.int .i64 x.kind, .string ⟨x.reg.toArray⟩, .string ⟨x.name.toArray⟩, .slice AE nE cE, .slice AF nF cF, .int .i64 x.n, .int .i64 x.body, .int .i64 x.els, .int .i64 x.pl] 31) = W at *
  obtain ⟨hW, y0, y1, y2, y3, y4, y5, _, _, _⟩ := N9.out
  go_wp2_with fail
  refine (show_any _ x.f _ HR.out hl hs HT.out).mono ?_
  rintro e w1 ⟨rfl, hb⟩
  go_wp2_with fail
  go_ret
  exact ⟨rfl, below_then HB0.out hb⟩
set_option maxRecDepth 100000 in
set_option maxHeartbeats 4000000 in
theorem meant_k (x : Stm) (AE : Option Addr) (nE cE : Nat) (AF : Option Addr) (nF cF : Nat) (w : World) (hn0 : 0 ≤ x.n) (hn1 : x.n ≤ 8) (ht : Tabs w) : Calls Tryz.prog 61 #[.string ⟨[107].toArray⟩, .agg #[.int .i64 x.kind, .string ⟨x.reg.toArray⟩, .string ⟨x.name.toArray⟩, .slice AE nE cE, .slice AF nF cF, .int .i64 x.n, .int .i64 x.body, .int .i64 x.els, .int .i64 x.pl]] w (GivesSB (Lib.itoa x.n) w) := by
  go_enter Tryz.func61, Tryz.ntmps61
  go_upto_region 1 with (fail)
  have hbx := (Below.refl w.heap.size w).alloc (Nat.le_refl _) (.cells #[.int .i64 x.kind, .string ⟨x.reg.toArray⟩, .string ⟨x.name.toArray⟩, .slice AE nE cE, .slice AF nF cF, .int .i64 x.n, .int .i64 x.body, .int .i64 x.els, .int .i64 x.pl] 31)
  have HB0 := Lib.hid hbx
  have HT := Lib.hid (ht.on hbx)
  clear ht
  have N9 := Lib.hid (nine_new w (.int .i64 x.kind) (.string ⟨x.reg.toArray⟩) (.string ⟨x.name.toArray⟩) (.slice AE nE cE) (.slice AF nF cF) (.int .i64 x.n) (.int .i64 x.body) (.int .i64 x.els) (.int .i64 x.pl) 31)
  clear hbx
  generalize w.alloc (.cells #[.int .i64 x.kind, .string ⟨x.reg.toArray⟩, .string ⟨x.name.toArray⟩, .slice AE nE cE, .slice AF nF cF, .int .i64 x.n, .int .i64 x.body, .int .i64 x.els, .int .i64 x.pl] 31) = W at *
  obtain ⟨hW, y0, y1, y2, y3, y4, y5, _, _, _⟩ := N9.out
  go_wp2_with fail
  refine (wtext_any x.n (by omega) (by omega) _ HT.out).mono ?_
  rintro e w1 ⟨rfl, hb⟩
  go_wp2_with fail
  go_ret
  exact ⟨rfl, below_then HB0.out hb⟩
set_option maxRecDepth 100000 in
set_option maxHeartbeats 4000000 in
theorem meant_o (x : Stm) (wd : List UInt8) (AE : Option Addr) (nE cE : Nat) (AF : Option Addr) (nF cF : Nat) (w : World) (h1 : (wd == [114]) = false) (h2 : (wd == [110]) = false) (h3 : (wd == [101]) = false) (h4 : (wd == [102]) = false) (h5 : (wd == [107]) = false) : Calls Tryz.prog 61 #[.string ⟨wd.toArray⟩, .agg #[.int .i64 x.kind, .string ⟨x.reg.toArray⟩, .string ⟨x.name.toArray⟩, .slice AE nE cE, .slice AF nF cF, .int .i64 x.n, .int .i64 x.body, .int .i64 x.els, .int .i64 x.pl]] w (GivesSB wd w) := by
  go_enter Tryz.func61, Tryz.ntmps61
  go_upto_region 1 with (fail)
  have hbx := (Below.refl w.heap.size w).alloc (Nat.le_refl _) (.cells #[.int .i64 x.kind, .string ⟨x.reg.toArray⟩, .string ⟨x.name.toArray⟩, .slice AE nE cE, .slice AF nF cF, .int .i64 x.n, .int .i64 x.body, .int .i64 x.els, .int .i64 x.pl] 31)
  have HB0 := Lib.hid hbx
  have N9 := Lib.hid (nine_new w (.int .i64 x.kind) (.string ⟨x.reg.toArray⟩) (.string ⟨x.name.toArray⟩) (.slice AE nE cE) (.slice AF nF cF) (.int .i64 x.n) (.int .i64 x.body) (.int .i64 x.els) (.int .i64 x.pl) 31)
  clear hbx
  generalize w.alloc (.cells #[.int .i64 x.kind, .string ⟨x.reg.toArray⟩, .string ⟨x.name.toArray⟩, .slice AE nE cE, .slice AF nF cF, .int .i64 x.n, .int .i64 x.body, .int .i64 x.els, .int .i64 x.pl] 31) = W at *
  obtain ⟨hW, y0, y1, y2, y3, y4, y5, _, _, _⟩ := N9.out
  go_wp2_with fail
  go_ret
  exact ⟨rfl, HB0.out⟩
theorem meant_any (x : Stm) (wd : List UInt8) (AE : Option Addr) (nE cE : Nat) (AF : Option Addr) (nF cF : Nat) (w : World) (hE : ReadN w (.slice AE nE cE) x.e) (hF : ReadN w (.slice AF nF cF) x.f) (hf : fitS x = true) (ht : Tabs w) : Calls Tryz.prog 61 #[.string ⟨wd.toArray⟩, .agg #[.int .i64 x.kind, .string ⟨x.reg.toArray⟩, .string ⟨x.name.toArray⟩, .slice AE nE cE, .slice AF nF cF, .int .i64 x.n, .int .i64 x.body, .int .i64 x.els, .int .i64 x.pl]] w (GivesSB (meantW x wd) w) := by
  obtain ⟨_, _, _, _, ⟨g1, g2⟩, ⟨g3, g4⟩, g5, g6⟩ := fit_len hf
  unfold meantW
  split
  · rename_i h; subst h; exact meant_r x AE nE cE AF nF cF w
  split
  · rename_i h; subst h; exact meant_n x AE nE cE AF nF cF w
  split
  · rename_i h; subst h; exact meant_e x AE nE cE AF nF cF w hE g1 g2 ht
  split
  · rename_i h; subst h; exact meant_f x AE nE cE AF nF cF w hF g3 g4 ht
  split
  · rename_i h; subst h; exact meant_k x AE nE cE AF nF cF w g5 g6 ht
  · rename_i h1 h2 h3 h4 h5
    exact meant_o x wd AE nE cE AF nF cF w (beq_eq_false_iff_ne.2 h1) (beq_eq_false_iff_ne.2 h2) (beq_eq_false_iff_ne.2 h3) (beq_eq_false_iff_ne.2 h4) (beq_eq_false_iff_ne.2 h5)
end Go.Proofs.YtpeohfgadnfnpaaGreatDoor
/-
  DERIVED. Layer 3: contracts of those that the laws hold Is and Place against.
-/
namespace Go.Proofs.YtpeohfgadnfnpaaGreatDoor
open Go.RowKit

theorem kinds_no {k : Int} (h1 : (k != 2) = true) (h2 : 1 ≤ k) (h3 : k ≤ 3) : (k == 1 || k == 3) = true := by
  simp at h1 ⊢; omega

set_option maxRecDepth 100000 in
set_option maxHeartbeats 4000000 in
theorem ris_any (v : Value) (L : List Tok) (i : Int) (s : ByteArray) (w : World) (h : ReadT w v L) : Calls Tryz.prog 44 #[v, .int .i64 i, .string s] w (TellsB (isB L i s.data.toList) w) := by
  by_cases hi : 0 ≤ i ∧ i < L.length
  · obtain ⟨k, rfl⟩ : ∃ k : Nat, i = (k : Int) := ⟨i.toNat, by omega⟩
    have hk : k < L.length := by omega
    have ha : L[k]? = some L[k] := List.getElem?_eq_getElem hk
    generalize L[k] = a at *
    have HR : Hid (isB L k s.data.toList = ((a.kind == 1 || a.kind == 3) && a.text == s.data.toList)) := Lib.hid (by unfold isB; rw [Int.toNat_natCast, ha]; simp)
    obtain ⟨A, c, hv, hc, hr⟩ := h
    obtain ⟨g, rfl, hg, x0, x1, x2, x3⟩ := hr k a ha
    subst hv
    clear hr ha
    cases e0 : (a.text == s.toList) with
    | false =>
      have HQ : Hid (isB L k s.data.toList = false) := Lib.hid (by rw [HR.out, ← ByteArray.toList_eq, e0, Bool.and_false])
      go_enter Tryz.func44, Tryz.ntmps44
      go_wp2_with fail
      go_ret
      exact ⟨ret_bool HQ.out.symm, Below.refl _ _⟩
    | true =>
      have HQ : Hid (isB L k s.data.toList = (a.kind == 1 || a.kind == 3)) := Lib.hid (by rw [HR.out, ← ByteArray.toList_eq, e0, Bool.and_true])
      cases e1 : (a.kind != 2) with
      | false =>
        have HK : Hid ((a.kind == 1 || a.kind == 3) = false) := Lib.hid (by simp at e1; rw [e1]; rfl)
        go_enter Tryz.func44, Tryz.ntmps44
        go_wp2_with fail
        go_ret
        exact ⟨ret_bool (by rw [HQ.out, HK.out]), Below.refl _ _⟩
      | true =>
        by_cases e2 : 1 ≤ a.kind
        · by_cases e3 : a.kind ≤ 3
          · have HK := Lib.hid (kinds_no e1 e2 e3)
            have d2 : decide (1 ≤ a.kind) = true := by simpa using e2
            have d3 : decide (a.kind ≤ 3) = true := by simpa using e3
            go_enter Tryz.func44, Tryz.ntmps44
            go_wp2_with fail
            go_ret
            exact ⟨ret_bool (by rw [HQ.out, HK.out]), Below.refl _ _⟩
          · have HK : Hid ((a.kind == 1 || a.kind == 3) = false) := Lib.hid (by simp; omega)
            go_enter Tryz.func44, Tryz.ntmps44
            go_wp2_with fail
            go_ret
            exact ⟨ret_bool (by rw [HQ.out, HK.out]), Below.refl _ _⟩
        · have HK : Hid ((a.kind == 1 || a.kind == 3) = false) := Lib.hid (by simp; omega)
          go_enter Tryz.func44, Tryz.ntmps44
          go_wp2_with fail
          go_ret
          exact ⟨ret_bool (by rw [HQ.out, HK.out]), Below.refl _ _⟩
  · have HR : Hid (isB L i s.data.toList = false) := Lib.hid (by
      unfold isB
      by_cases h0 : 0 ≤ i
      · rw [List.getElem?_eq_none (by omega)]; simp
      · simp [h0])
    obtain ⟨A, c, rfl, hc, hr⟩ := h
    clear hr
    by_cases h0 : 0 ≤ i
    · have h1 : ¬ i < (L.length : Int) := fun x => hi ⟨h0, x⟩
      clear hi
      go_enter Tryz.func44, Tryz.ntmps44
      go_wp2_with fail
      go_ret
      exact ⟨ret_bool HR.out.symm, Below.refl _ _⟩
    · clear hi
      go_enter Tryz.func44, Tryz.ntmps44
      go_wp2_with fail
      go_ret
      exact ⟨ret_bool HR.out.symm, Below.refl _ _⟩

set_option maxRecDepth 100000 in
set_option maxHeartbeats 4000000 in
theorem rplace_any (v : Value) (L : List Tok) (i : Int) (w : World) (h : ReadT w v L) (hl : L.length ≤ 10000) (hs : SmallT L) : Calls Tryz.prog 68 #[v, .int .i64 i] w (GivesN (placeV L i) w) := by
  by_cases hi : 0 ≤ i ∧ i < L.length
  · obtain ⟨k, rfl⟩ : ∃ k : Nat, i = (k : Int) := ⟨i.toNat, by omega⟩
    have hk : k < L.length := by omega
    have ha : L[k]? = some L[k] := List.getElem?_eq_getElem hk
    generalize L[k] = a at *
    have HR := Lib.hid (place_in ha)
    obtain ⟨A, c, hv, hc, hr⟩ := h
    obtain ⟨g, rfl, hg, x0, x1, x2, x3⟩ := hr k a ha
    subst hv
    clear hr ha hs
    go_enter Tryz.func68, Tryz.ntmps68
    go_wp2_with fail
    go_ret
    exact givesN_of rfl HR.out.symm (Below.refl _ _)
  · by_cases h0 : L = []
    · subst h0
      obtain ⟨A, c, rfl, hc, hr⟩ := h
      clear hr hs
      by_cases hp : 0 ≤ i
      · have h1 : ¬ i < ((([] : List Tok).length : Nat) : Int) := fun x => hi ⟨hp, x⟩
        clear hi
        go_enter Tryz.func68, Tryz.ntmps68
        go_wp2_with fail
        go_ret
        exact givesN_of rfl (place_nil i).symm (Below.refl _ _)
      · clear hi
        go_enter Tryz.func68, Tryz.ntmps68
        go_wp2_with fail
        go_ret
        exact givesN_of rfl (place_nil i).symm (Below.refl _ _)
    · have hpos : 0 < L.length := List.length_pos_iff.2 h0
      have ha : L[L.length - 1]? = some (L[L.length - 1]'(by omega)) := List.getElem?_eq_getElem (by omega)
      have hsm := hs _ (List.getElem_mem (show L.length - 1 < L.length by omega))
      generalize L[L.length - 1]'(by omega) = a at *
      have HR := Lib.hid (place_out hi ha)
      obtain ⟨A, c, hv, hc, hr⟩ := h
      obtain ⟨g, rfl, hg, x0, x1, x2, x3⟩ := hr _ a ha
      subst hv
      clear hr ha hs h0
      obtain ⟨n, hn⟩ : ∃ n, L.length = n + 1 := ⟨L.length - 1, by omega⟩
      rw [hn] at x0 x1 x2 x3 hc hl hi
      rw [show n + 1 - 1 = n from rfl] at x0 x1 x2 x3
      rw [show Value.slice (some ⟨g, 0, none⟩) L.length c = Value.slice (some ⟨g, 0, none⟩) (n + 1) c from by rw [hn]]
      clear hn hpos
      have hl0 : (((n : Int) + 1) == 0) = false := beq_eq_false_iff_ne.2 (by omega)
      have z1 : IntKind.i64.wrap ((n : Int) + 1 - 1) = (n : Int) := by rw [show (n : Int) + 1 - 1 = (n : Int) from by omega]; exact IntWalk.i64_in _ (by omega)
      have z2 : IntKind.i64.wrap ((a.pl : Int) + (a.text.length : Int)) = (a.pl : Int) + (a.text.length : Int) := IntWalk.i64_in _ (by omega)
      have b1 : (n : Int) < (n : Int) + 1 := by omega
      by_cases hp : 0 ≤ i
      · have h1 : ¬ i < ((n : Int) + 1) := fun x => hi ⟨hp, by omega⟩
        clear hi
        go_enter Tryz.func68, Tryz.ntmps68
        go_wp2_with fail
        go_quiet (fail)
        go_wp2_with fail
        go_ret
        exact givesN_of rfl HR.out.symm (below_drew1 _ _)
      · clear hi
        go_enter Tryz.func68, Tryz.ntmps68
        go_wp2_with fail
        go_quiet (fail)
        go_wp2_with fail
        go_ret
        exact givesN_of rfl HR.out.symm (below_drew1 _ _)
end Go.Proofs.YtpeohfgadnfnpaaGreatDoor
