/-
  DERIVED. Texts of the walk, packed: Cut3, CutS.
-/
import Derived.Test.YtpeohfgadnfnpaaGreatDoorQ37
import Derived.Laws.BitsAllLaws
import Derived.Laws.BitsLemmas
/-
  DERIVED. Layer 4: nodes that are handed in; the contract of layer 3's Cut.
-/
namespace Go.Proofs.YtpeohfgadnfnpaaGreatDoor
open Go.RowKit

/-- A node as it is handed in: whatever its numbers and its name. -/
structure RawN where
  op : Int
  n : Int
  name : ByteArray
  pl : Int
/-- A slice of nodes that is handed in. -/
def ArgN (w : World) (A : Option Addr) (n : Nat) (R : Nat → RawN) : Prop :=
  ∀ i, i < n → ∃ b off, A = some ⟨b, off, none⟩ ∧ b < w.heap.size ∧ w.cell? ⟨b, off + i * 4, none⟩ = some (.int .i64 (R i).op) ∧ w.cell? ⟨b, off + i * 4 + 1, none⟩ = some (.int .i64 (R i).n) ∧
    w.cell? ⟨b, off + i * 4 + 2, none⟩ = some (.string (R i).name) ∧ w.cell? ⟨b, off + i * 4 + 3, none⟩ = some (.int .i64 (R i).pl)
theorem ArgN.on {w w' : World} {A : Option Addr} {n : Nat} {R : Nat → RawN} (h : ArgN w A n R) (hb : Below w.heap.size w w') : ArgN w' A n R := by
  intro i hi
  obtain ⟨b, off, hA, hbl, h0, h1, h2, h3⟩ := h i hi
  have e : ∀ o, w'.cell? ⟨b, o, none⟩ = w.cell? ⟨b, o, none⟩ := fun o => hb.cell (p := ⟨b, o, none⟩) hbl
  exact ⟨b, off, hA, Nat.lt_of_lt_of_le hbl hb.size, (e _).trans h0, (e _).trans h1, (e _).trans h2, (e _).trans h3⟩
def rawNod (r : RawN) : Nod := ⟨r.op, r.n, (r.name.extract 0 (min (r.name.size : Int) 40).toNat).data.toList, r.pl⟩
def rawN (R : Nat → RawN) (k : Nat) : List Nod := (List.range k).map fun i => rawNod (R i)
theorem rawN_succ (R : Nat → RawN) (k : Nat) : rawN R (k + 1) = rawN R k ++ [rawNod (R k)] := by simp [rawN, List.range_succ]
theorem rawN_len (R : Nat → RawN) (k : Nat) : (rawN R k).length = k := by simp [rawN]
theorem rawN_small (R : Nat → RawN) (k : Nat) : SmallN (rawN R k) := by
  intro t ht
  simp only [rawN, List.mem_map] at ht
  obtain ⟨i, _, rfl⟩ := ht
  show ((R i).name.extract 0 (min ((R i).name.size : Int) 40).toNat).data.toList.length ≤ 100000
  rw [len_data, ByteArray.size_extract]; omega
theorem empty_nod (w : World) : OwnN (w.alloc (.cells #[] 33)) w.heap.size (.slice (some ⟨w.heap.size, 0, none⟩) 0 0) [] :=
  ⟨rfl, .inr ⟨w.heap.size, 0, #[], rfl, Nat.le_refl _, heap_alloc_new w _, by decide, by decide, rfl, rfl⟩⟩
theorem nod_cells {W2 : World} (a : Nod) : ∀ j u, (nodCells a)[j]? = some u → (W2.alloc (.cells #[.int .i64 a.op, .int .i64 a.n, .string ⟨a.name.toArray⟩, .int .i64 a.pl] 33)).cell? ((⟨W2.heap.size, 0, none⟩ : Addr).add j) = some u := by
  intro j u hu
  match j, hu with
  | 0, hu => simp [nodCells] at hu; subst hu; simp [Addr.add]
  | 1, hu => simp [nodCells] at hu; subst hu; simp [Addr.add]
  | 2, hu => simp [nodCells] at hu; subst hu; simp [Addr.add]
  | 3, hu => simp [nodCells] at hu; subst hu; simp [Addr.add]
  | n + 4, hu => simp [nodCells] at hu
theorem rawN_cells {W2 : World} (r : RawN) (t : ByteArray) (ht : t = r.name.extract 0 (min (r.name.size : Int) 40).toNat) (b : Nat) (hb : b = W2.heap.size) :
    ∀ j u, (nodCells (rawNod r))[j]? = some u → (W2.alloc (.cells #[.int .i64 r.op, .int .i64 r.n, .string t, .int .i64 r.pl] 33)).cell? ((⟨b, 0, none⟩ : Addr).add j) = some u := by
  subst hb
  have h := nod_cells (W2 := W2) (rawNod r)
  have e1 : (⟨(rawNod r).name.toArray⟩ : ByteArray) = t := by rw [ht]; apply bytes_ext; simp [rawNod]
  rw [e1] at h
  exact h
def GivesC (l : List Nod) (w : World) (e : Ending) (w' : World) : Prop := ∃ v, e = .returned v ∧ OwnN w' w.heap.size v l ∧ Below w.heap.size w w'

set_option maxRecDepth 100000 in
set_option maxHeartbeats 8000000 in
theorem cut_any (A : Option Addr) (n c : Nat) (R : Nat → RawN) (w : World) (hA : ArgN w A n R) : Calls Tryz.prog 30 #[.slice A n c] w (GivesC (rawN R (min n 60)) w) := by
  obtain ⟨i0, hi, hz0, hz1, hz2⟩ := info_parts info30
  have HZ := Lib.hid (show Tryz.prog.info? 33 = some i0 ∧ i0.zero = some (.agg #[.int .i64 0, .int .i64 0, .string ⟨#[]⟩, .int .i64 0]) ∧ i0.size = 4 ∧ i0.bytes = 40 from ⟨hi, hz0, hz1, hz2⟩)
  have HA := Lib.hid hA
  clear hi hz0 hz1 hz2 hA
  go_enter Tryz.func30, Tryz.ntmps30
  go_wp2_with fail
  go_loopw [3, 4] (fun v x wr => ∃ k : Nat, k ≤ n ∧ k ≤ 60 ∧ x = .int .i64 k ∧ OwnN wr w.heap.size v (rawN R k) ∧ Below w.heap.size w wr) (fun _ x _ => 60 - (intOf x).toNat)
  case atStart => exact ⟨0, Nat.zero_le _, Nat.zero_le _, rfl, empty_nod w, (Below.refl _ _).alloc (Nat.le_refl _) _⟩
  case round =>
    obtain ⟨k, hkn, hk60, rfl, hown, hbel⟩ := hrel
    have HO := Lib.hid hown
    have HB := Lib.hid hbel
    have hsz := hbel.size
    clear hown
    by_cases hlt : k < n
    · by_cases hl6 : k < 60
      · obtain ⟨b, off, hAA, hbl, y0, y1, y2, y3⟩ := HA.out k hlt
        subst hAA
        have x0 := (hbel.cell (p := ⟨b, off + k * 4, none⟩) hbl).trans y0
        have x1 := (hbel.cell (p := ⟨b, off + k * 4 + 1, none⟩) hbl).trans y1
        have x2 := (hbel.cell (p := ⟨b, off + k * 4 + 2, none⟩) hbl).trans y2
        have x3 := (hbel.cell (p := ⟨b, off + k * 4 + 3, none⟩) hbl).trans y3
        have HS := Lib.hid (rawN_succ R k)
        have hrl := rawN_len R k
        clear y0 y1 y2 y3 hbel
        generalize R k = r at *
        generalize hG : rawN R k = G at *
        have hG60 : G.length ≤ 59 := by omega
        clear hrl hG
        go_wp2_with (at_builtin; refine wpList_append_own _ rfl (.tmp 29) (.tmp 31) 29 rfl w.heap.size 33 i0 (.agg #[.int .i64 0, .int .i64 0, .string ⟨#[]⟩, .int .i64 0]) 4 40 Tryz.underlying29 HZ.out.1 HZ.out.2.1 HZ.out.2.2.1 HZ.out.2.2.2 rfl (by decide) _ G.length (cellsN G) rfl ?dO ⟨wr.heap.size + 1, 0, none⟩ 1 1 (nodCells (rawNod r)) rfl rfl ?d1 ?d2 ?d3 ?d4 ?d5 ?_)
        case dO => exact HO.out.on (((Below.refl _ _).alloc (Nat.le_refl _) _).alloc (by simp) _)
        case d1 => exact rawN_cells r _ rfl _ (by simp)
        case d2 => intro u hu; exact nod_one [rawNod r] u (by rw [cellsN_one]; exact hu)
        case d3 => unfold maxLen; omega
        case d4 => omega
        case d5 => simp; omega
        intro v5 w5 hown' hgrow _
        have HK5 : Hid (OwnN w5 w.heap.size v5 (G ++ [rawNod r])) := Lib.hid (by unfold OwnN; rw [cellsN_app, cellsN_one, List.length_append]; exact hown')
        have HL5 : Hid (Below w.heap.size w w5) := Lib.hid (((HB.out.alloc hsz _).alloc (by simp; omega) _).grown hgrow (by simp; omega) (fun k hk => (ownN_block HO.out k hk).1))
        clear hown' hgrow x0 x1 x2 x3
        go_wp2_with fail
        go_roundw
        case rel => exact ⟨k + 1, by omega, by omega, by go_num, by rw [HS.out]; exact HK5.out, HL5.out⟩
        case measure => simp [intOf]; omega
      · have HE : Hid (min n 60 = k) := Lib.hid (by omega)
        clear hbel
        go_wp2_with fail
        go_ret
        exact ⟨_, rfl, by rw [HE.out]; exact HO.out, HB.out⟩
    · have HE : Hid (min n 60 = k) := Lib.hid (by omega)
      clear hbel
      go_wp2_with fail
      go_ret
      exact ⟨_, rfl, by rw [HE.out]; exact HO.out, HB.out⟩
end Go.Proofs.YtpeohfgadnfnpaaGreatDoor
/-
  DERIVED. Layer 4: statements that are handed in; the contract of the laws' Cut.
-/
namespace Go.Proofs.YtpeohfgadnfnpaaGreatDoor
open Go.RowKit

/-- A statement as it is handed in. -/
structure RawS where
  kind : Int
  reg : ByteArray
  name : ByteArray
  AE : Option Addr
  nE : Nat
  cE : Nat
  RE : Nat → RawN
  AF : Option Addr
  nF : Nat
  cF : Nat
  RF : Nat → RawN
  n : Int
  body : Int
  els : Int
  pl : Int
/-- A slice of statements that is handed in. -/
def ArgS (w : World) (A : Option Addr) (n : Nat) (R : Nat → RawS) : Prop :=
  ∀ i, i < n → ∃ b off, A = some ⟨b, off, none⟩ ∧ b < w.heap.size ∧ w.cell? ⟨b, off + i * 9, none⟩ = some (.int .i64 (R i).kind) ∧ w.cell? ⟨b, off + i * 9 + 1, none⟩ = some (.string (R i).reg) ∧ w.cell? ⟨b, off + i * 9 + 2, none⟩ = some (.string (R i).name) ∧
    w.cell? ⟨b, off + i * 9 + 3, none⟩ = some (.slice (R i).AE (R i).nE (R i).cE) ∧ w.cell? ⟨b, off + i * 9 + 4, none⟩ = some (.slice (R i).AF (R i).nF (R i).cF) ∧ w.cell? ⟨b, off + i * 9 + 5, none⟩ = some (.int .i64 (R i).n) ∧
    w.cell? ⟨b, off + i * 9 + 6, none⟩ = some (.int .i64 (R i).body) ∧ w.cell? ⟨b, off + i * 9 + 7, none⟩ = some (.int .i64 (R i).els) ∧ w.cell? ⟨b, off + i * 9 + 8, none⟩ = some (.int .i64 (R i).pl) ∧ ArgN w (R i).AE (R i).nE (R i).RE ∧ ArgN w (R i).AF (R i).nF (R i).RF
theorem ArgS.on {w w' : World} {A : Option Addr} {n : Nat} {R : Nat → RawS} (h : ArgS w A n R) (hb : Below w.heap.size w w') : ArgS w' A n R := by
  intro i hi
  obtain ⟨b, off, hA, hbl, h0, h1, h2, h3, h4, h5, h6, h7, h8, h9, h10⟩ := h i hi
  have e : ∀ o, w'.cell? ⟨b, o, none⟩ = w.cell? ⟨b, o, none⟩ := fun o => hb.cell (p := ⟨b, o, none⟩) hbl
  exact ⟨b, off, hA, Nat.lt_of_lt_of_le hbl hb.size, (e _).trans h0, (e _).trans h1, (e _).trans h2, (e _).trans h3, (e _).trans h4, (e _).trans h5, (e _).trans h6, (e _).trans h7, (e _).trans h8, h9.on hb, h10.on hb⟩
def cut40 (s : ByteArray) : List UInt8 := (s.extract 0 (min (s.size : Int) 40).toNat).data.toList
def rawStm (r : RawS) : Stm := ⟨r.kind, cut40 r.reg, cut40 r.name, rawN r.RE (min r.nE 60), rawN r.RF (min r.nF 60), r.n, r.body, r.els, r.pl⟩
def rawS (R : Nat → RawS) (k : Nat) : List Stm := (List.range k).map fun i => rawStm (R i)
theorem rawS_succ (R : Nat → RawS) (k : Nat) : rawS R (k + 1) = rawS R k ++ [rawStm (R k)] := by simp [rawS, List.range_succ]
theorem rawS_len (R : Nat → RawS) (k : Nat) : (rawS R k).length = k := by simp [rawS]
theorem cut40_len (s : ByteArray) : (cut40 s).length ≤ 40 := by
  unfold cut40
  rw [len_data, ByteArray.size_extract]; omega
theorem rawS_small (R : Nat → RawS) (k : Nat) : ∀ x ∈ rawS R k, SmallS x := by
  intro t ht
  simp only [rawS, List.mem_map] at ht
  obtain ⟨i, _, rfl⟩ := ht
  have h1 := cut40_len (R i).reg
  have h2 := cut40_len (R i).name
  refine ⟨by show (cut40 (R i).reg).length ≤ _; omega, by show (cut40 (R i).name).length ≤ _; omega, ?_, ?_, rawN_small _ _, rawN_small _ _⟩
  · show (rawN _ _).length ≤ _; rw [rawN_len]; omega
  · show (rawN _ _).length ≤ _; rw [rawN_len]; omega
theorem cut40_is (s : ByteArray) : (⟨(cut40 s).toArray⟩ : ByteArray) = s.extract 0 (min (s.size : Int) 40).toNat := by
  apply bytes_ext; unfold cut40; simp
/-- What Cut comes back with. -/
def GivesCS (l : List Stm) (w : World) (e : Ending) (w' : World) : Prop := ∃ v, e = .returned v ∧ OwnS w' w.heap.size v l ∧ (∃ g cap, v = .slice (some ⟨g, 0, none⟩) l.length cap) ∧ Below w.heap.size w w'
/-- How far it is: the row as it grows. -/
structure RowS (w : World) (R : Nat → RawS) (k : Nat) (v : Value) (wr : World) : Prop where
  row : ∃ K : List Sv, K.map (·.s) = rawS R k ∧ wr.ownsRow w.heap.size 31 9 v K.length (cellsV K) ∧ ∀ x ∈ K, ReadE w.heap.size wr x.vE x.s.e ∧ ReadE w.heap.size wr x.vF x.s.f
  low : Below w.heap.size w wr
  form : ∃ g cap, v = .slice (some ⟨g, 0, none⟩) k cap
theorem OwnN.readE2 {w : World} {B : Nat} {v : Value} {l : List Nod} (h : OwnN w B v l) : ReadE B w v l := h.readE (Nat.le_refl _)
theorem row_nodes {w : World} {B : Nat} {v : Value} {n : Nat} {xs : List Value} (h : w.ownsRow B 31 9 v n xs) : ∀ q cs fr, w.heap[q]? = some (.cells cs 33 fr) → ¬ (v.ownBlock = some q) := by
  intro q cs fr hh e
  obtain ⟨_, cs', h2⟩ := row_type h q e
  rw [h2] at hh; simp at hh
theorem row_lt {w : World} {B : Nat} {v : Value} {n : Nat} {xs : List Value} (h : w.ownsRow B 31 9 v n xs) : ∀ q, v.ownBlock = some q → q < w.heap.size := fun q hq => (Array.getElem?_eq_some_iff.1 (row_type h q hq).2.choose_spec).1
theorem keep_sa {w : World} {b j : Nat} {v : Value} {o : Obj} : KeepP (fun q => q = b) w ((w.setCell ⟨b, j, none⟩ v).alloc o) := (KeepP.set (g := b) (j := j) (w := w)).trans (KeepP.of (P := fun _ => False) ((Below.refl _ _).alloc (Nat.le_refl _) o)) (fun _ _ h => h) (fun _ _ h => h.elim)
theorem KEEP_W {w w4 : World} {b j : Nat} {v : Value} {o : Obj} (h : Below w.heap.size w w4) (_ : w.heap.size = b) : KeepP (fun q => q = b) w ((w4.setCell ⟨b, j, none⟩ v).alloc o) := (KeepP.of (P := fun q => q = b) h).trans keep_sa (fun _ _ h => h) (fun _ _ h => h)
theorem new_at2 (w : World) (b j : Nat) {v : Value} {o : Obj} : ((w.setCell ⟨b, j, none⟩ v).alloc o).heap[w.heap.size]? = some o := by
  have h := heap_alloc_new (w.setCell ⟨b, j, none⟩ v) o
  simpa using h
set_option maxRecDepth 100000 in
set_option maxHeartbeats 16000000 in
theorem cutS_any (A : Option Addr) (n c : Nat) (R : Nat → RawS) (w : World) (hA : ArgS w A n R) : Calls Tryz.prog 15 #[.slice A n c] w (GivesCS (rawS R (min n 50)) w) := by
  obtain ⟨i0, hi, hz0, hz1, hz2⟩ := info_parts infoStm
  have HZ := Lib.hid (show Tryz.prog.info? 31 = some i0 ∧ i0.zero = some (.agg #[.int .i64 0, .string ⟨#[]⟩, .string ⟨#[]⟩, .slice none 0 0, .slice none 0 0, .int .i64 0, .int .i64 0, .int .i64 0, .int .i64 0]) ∧ i0.size = 9 ∧ i0.bytes = 120 from ⟨hi, hz0, hz1, hz2⟩)
  have HA := Lib.hid hA
  clear hi hz0 hz1 hz2 hA
  go_enter Tryz.func15, Tryz.ntmps15
  go_wp2_with fail
  go_loopw [3, 4] (fun v x wr => ∃ k : Nat, k ≤ n ∧ k ≤ 50 ∧ x = .int .i64 k ∧ RowS w R k v wr) (fun _ x _ => 50 - (intOf x).toNat)
  case atStart => exact ⟨0, Nat.zero_le _, Nat.zero_le _, rfl, ⟨[], rfl, ⟨rfl, .inr ⟨w.heap.size, 0, #[], rfl, Nat.le_refl _, heap_alloc_new w _, by decide, by decide, rfl, rfl⟩⟩, fun x h => by (cases h)⟩, (Below.refl _ _).alloc (Nat.le_refl _) _, _, _, rfl⟩
  case round =>
    obtain ⟨k, hkn, hk50, rfl, hrow⟩ := hrel
    have HRW := Lib.hid hrow
    have hsz := hrow.low.size
    clear hrow
    by_cases hlt : k < n
    · by_cases hl6 : k < 50
      · obtain ⟨b, off, hAA, hbl, y0, y1, y2, y3, y4, y5, y6, y7, y8, yE, yF⟩ := HA.out.on HRW.out.low k hlt
        subst hAA
        have HAE := Lib.hid yE
        have HAF := Lib.hid yF
        have HS := Lib.hid (rawS_succ R k)
        clear yE yF
        generalize R k = r at *
        obtain ⟨kind, reg, name, AE, nE, cE, RE, AF, nF, cF, RF, rn, body, els, rpl⟩ := r
        simp only at y0 y1 y2 y3 y4 y5 y6 y7 y8 HAE HAF
        go_wp2_with fail
        have hb1 : Below wr.heap.size wr (wr.alloc (.cells #[.int .i64 kind, .string (reg.extract 0 (min (reg.size : Int) 40).toNat), .string (name.extract 0 (min (name.size : Int) 40).toNat), .slice AE nE cE, .slice AF nF cF, .int .i64 rn, .int .i64 body, .int .i64 els, .int .i64 rpl] 31)) := (Below.refl _ _).alloc (Nat.le_refl _) _
        have hx1 := heap_alloc_new wr (.cells #[.int .i64 kind, .string (reg.extract 0 (min (reg.size : Int) 40).toNat), .string (name.extract 0 (min (name.size : Int) 40).toNat), .slice AE nE cE, .slice AF nF cF, .int .i64 rn, .int .i64 body, .int .i64 els, .int .i64 rpl] 31)
        generalize wr.alloc (.cells #[.int .i64 kind, .string (reg.extract 0 (min (reg.size : Int) 40).toNat), .string (name.extract 0 (min (name.size : Int) 40).toNat), .slice AE nE cE, .slice AF nF cF, .int .i64 rn, .int .i64 body, .int .i64 els, .int .i64 rpl] 31) = w1 at *
        obtain ⟨xb, hxb⟩ : ∃ xb, wr.heap.size = xb := ⟨_, rfl⟩
        rw [hxb] at hx1 ⊢
        have HXB := Lib.hid hxb
        have hbw : w.heap.size ≤ xb := by omega
        clear y0 y1 y2 y3 y4 y5 y6 y7 y8 hbl hxb
        refine (cut_any AE nE cE RE _ (HAE.out.on hb1)).mono ?_
        rintro e2 w2 ⟨v2, rfl, ho2, hb2⟩
        have hl1 := (Array.getElem?_eq_some_iff.1 hx1).1
        have hx2 := (hb2.block xb hl1).trans hx1
        have hl2 := (Array.getElem?_eq_some_iff.1 hx2).1
        obtain ⟨A2, n2, c2, rfl⟩ := own_slice ho2
        have HE2 : Hid (ReadE w.heap.size w2 (.slice A2 n2 c2) (rawN RE (min nE 60))) := Lib.hid (ho2.readE (Nat.le_trans hsz hb1.size))
        have HB2 : Hid (Below wr.heap.size wr w2) := Lib.hid (below_then hb1 hb2)
        have z3 : w2.cell? ⟨xb, 3, none⟩ = some (.slice AE nE cE) := by rw [Lib.cell_of_heap hx2]; rfl
        have z4 : w2.cell? ⟨xb, 4, none⟩ = some (.slice AF nF cF) := by rw [Lib.cell_of_heap hx2]; rfl
        have q3 : w2.frozen? ⟨xb, 3, none⟩ = false := Lib.frozen_of_heap hx2 3
        have HX2 := Lib.hid hx2
        clear ho2 hb1 hb2 hx1 hl1 hx2
        go_wp2_with fail
        have hx3 := set_blk (j := 3) (v := .slice A2 n2 c2) HX2.out
        have hk3 : KeepP (fun q => q = xb) w2 (w2.setCell ⟨xb, 3, none⟩ (.slice A2 n2 c2)) := KeepP.set
        generalize w2.setCell ⟨xb, 3, none⟩ (.slice A2 n2 c2) = w3 at *
        have HK3 := Lib.hid hk3
        have hKW : KeepP (fun q => q = xb) wr w3 := (KeepP.of (P := fun q => q = xb) HB2.out).trans hk3 (fun _ _ h => h) (fun _ _ h => h)
        have hB3 : Below wr.heap.size wr w3 := hKW.below (fun q hq e => by have := HXB.out; omega) (Nat.le_refl _)
        refine (cut_any AF nF cF RF _ (HAF.out.on hB3)).mono ?_
        rintro e4 w4 ⟨v4, rfl, ho4, hb4⟩
        have hl3 := (Array.getElem?_eq_some_iff.1 hx3).1
        have hx4 := (hb4.block xb hl3).trans hx3
        have hl4 := (Array.getElem?_eq_some_iff.1 hx4).1
        obtain ⟨A4, n4, c4, rfl⟩ := own_slice ho4
        have HE4 : Hid (ReadE w.heap.size w4 (.slice A4 n4 c4) (rawN RF (min nF 60))) := Lib.hid (ho4.readE (Nat.le_trans hsz hB3.size))
        have HB4 : Hid (Below wr.heap.size wr w4) := Lib.hid (below_then hB3 hb4)
        have z4 : w4.cell? ⟨xb, 4, none⟩ = some (.slice AF nF cF) := by rw [Lib.cell_of_heap hx4]; rfl
        have q4 : w4.frozen? ⟨xb, 4, none⟩ = false := Lib.frozen_of_heap hx4 4
        have m0 : w4.cell? ⟨xb, 0, none⟩ = some (.int .i64 kind) := by rw [Lib.cell_of_heap hx4]; rfl
        have m1 : w4.cell? ⟨xb, 1, none⟩ = some (.string (reg.extract 0 (min (reg.size : Int) 40).toNat)) := by rw [Lib.cell_of_heap hx4]; rfl
        have m2 : w4.cell? ⟨xb, 2, none⟩ = some (.string (name.extract 0 (min (name.size : Int) 40).toNat)) := by rw [Lib.cell_of_heap hx4]; rfl
        have m3 : w4.cell? ⟨xb, 3, none⟩ = some (.slice A2 n2 c2) := by rw [Lib.cell_of_heap hx4]; rfl
        have m5 : w4.cell? ⟨xb, 5, none⟩ = some (.int .i64 rn) := by rw [Lib.cell_of_heap hx4]; rfl
        have m6 : w4.cell? ⟨xb, 6, none⟩ = some (.int .i64 body) := by rw [Lib.cell_of_heap hx4]; rfl
        have m7 : w4.cell? ⟨xb, 7, none⟩ = some (.int .i64 els) := by rw [Lib.cell_of_heap hx4]; rfl
        have m8 : w4.cell? ⟨xb, 8, none⟩ = some (.int .i64 rpl) := by rw [Lib.cell_of_heap hx4]; rfl
        have hE2 : ReadE w.heap.size w4 (.slice A2 n2 c2) (rawN RE (min nE 60)) := (HE2.out.keep HK3.out (fun q cs fr hh e => by rw [e, HX2.out] at hh; simp at hh)).on hb4
        have HE2' := Lib.hid hE2
        have HX4 := Lib.hid hx4
        obtain ⟨K, hK1, hK2, hK3⟩ := HRW.out.row
        have hKl : K.length = k := by have := congrArg List.length hK1; rw [List.length_map, rawS_len] at this; exact this
        have HK1 := Lib.hid hK1
        have HK2 := Lib.hid hK2
        have HKR := Lib.hid hK3
        have HKL : Hid (K.length ≤ 50) := Lib.hid (by omega)
        clear ho4 hb4 hx3 hl3 hx4 z3 q3 hk3 hKW hB3 hE2 hK1 hK2 hK3 hKl
        obtain ⟨y, hy⟩ : ∃ y : Sv, y = ⟨⟨kind, cut40 reg, cut40 name, rawN RE (min nE 60), rawN RF (min nF 60), rn, body, els, rpl⟩, .slice A2 n2 c2, .slice A4 n4 c4⟩ := ⟨_, rfl⟩
        have HY := Lib.hid hy
        have HYC : Hid (#[.int .i64 kind, .string (reg.extract 0 (min (reg.size : Int) 40).toNat), .string (name.extract 0 (min (name.size : Int) 40).toNat), .slice A2 n2 c2, .slice A4 n4 c4, .int .i64 rn, .int .i64 body, .int .i64 els, .int .i64 rpl] = (svCells y).toArray) := Lib.hid (by rw [hy]; simp only [svCells]; rw [cut40_is, cut40_is])
        have HBE : Hid (Below w4.heap.size w4 (w4.setCell ⟨xb, 4, none⟩ (.slice A4 n4 c4)) → True) := Lib.hid (fun _ => trivial)
        clear hy HBE
        go_wp2_with (at_builtin; refine wpList_append_own _ rfl (.tmp 45) (.tmp 47) 24 rfl w.heap.size 31 i0 (.agg #[.int .i64 0, .string ⟨#[]⟩, .string ⟨#[]⟩, .slice none 0 0, .slice none 0 0, .int .i64 0, .int .i64 0, .int .i64 0, .int .i64 0]) 9 120 Tryz.underlying24 HZ.out.1 HZ.out.2.1 HZ.out.2.2.1 HZ.out.2.2.2 rfl (by decide) _ K.length (cellsV K) rfl ?dO ⟨w4.heap.size, 0, none⟩ 1 1 (svCells y) (by rfl) (by rfl) ?d1 ?d2 ?d3 ?d4 ?d5 ?_)
        case dO => exact row_keep HK2.out (KEEP_W HB4.out HXB.out) (fun q hq e => by have := row_lt HK2.out q hq; have := HXB.out; omega)
        case d1 =>
          rw [HYC.out]
          exact World.news_of_block (cs := (svCells y).toArray) (new_at2 _ _ _)
        case d2 => rw [HY.out]; exact sv_one ⟨_, _, _, rfl⟩ ⟨_, _, _, rfl⟩
        case d3 => have := HKL.out; unfold maxLen; omega
        case d4 => have := HKL.out; omega
        case d5 => have := HB4.out.size; simp; omega
        intro v5 w5 hown5 hgrow5 _
        have HROW : Hid (RowS w R (k + 1) v5 w5) := Lib.hid (by
          have hkw := KEEP_W (j := 4) (v := .slice A4 n4 c4) (o := .cells (svCells y).toArray 31) HB4.out HXB.out
          have hk4 : KeepP (fun q => q = xb) w4 ((w4.setCell ⟨xb, 4, none⟩ (.slice A4 n4 c4)).alloc (.cells (svCells y).toArray 31)) := keep_sa
          rw [HYC.out] at hgrow5
          have hg5 := KeepP.grown hgrow5
          have hnr : ∀ q, u3.ownBlock = some q → q < wr.heap.size := row_lt HK2.out
          have hk5 : KeepP (fun q => q = xb ∨ u3.ownBlock = some q) wr w5 := hkw.trans hg5 (fun _ _ h => .inl h) (fun _ _ h => .inr h)
          have hx4n : ∀ q cs fr, w4.heap[q]? = some (.cells cs 33 fr) → ¬ (q = xb ∨ u3.ownBlock = some q) := by
            rintro q cs fr hh (e | e)
            · rw [e, HX4.out] at hh; simp at hh
            · obtain ⟨_, cs', h2⟩ := row_type HK2.out q e
              rw [HB4.out.block q (hnr q e), h2] at hh; simp at hh
          have hk45 : KeepP (fun q => q = xb ∨ u3.ownBlock = some q) w4 w5 := hk4.trans hg5 (fun _ _ h => .inl h) (fun _ _ h => .inr h)
          refine ⟨⟨K ++ [y], ?_, ?_, ?_⟩, HRW.out.low.trans (hk5.below ?_ hsz), ?_⟩
          · rw [List.map_append, HK1.out, HS.out, HY.out]; rfl
          · rw [cellsV_app, List.length_append, show cellsV [y] = svCells y from by simp [cellsV]]; exact hown5
          · intro z hz
            rcases List.mem_append.1 hz with hz | hz
            · obtain ⟨r1, r2⟩ := HKR.out z hz
              have hn : ∀ q cs fr, wr.heap[q]? = some (.cells cs 33 fr) → ¬ (q = xb ∨ u3.ownBlock = some q) := by
                rintro q cs fr hh (e | e)
                · have := (Array.getElem?_eq_some_iff.1 hh).1; have := HXB.out; omega
                · exact row_nodes HK2.out q cs fr hh e
              exact ⟨r1.keep hk5 hn, r2.keep hk5 hn⟩
            · obtain rfl : z = y := by simpa using hz
              rw [HY.out]
              exact ⟨HE2'.out.keep hk45 hx4n, HE4.out.keep hk45 hx4n⟩
          · rintro q hq (e | e)
            · omega
            · have := (row_type HK2.out q e).1; omega
          · have hKl : K.length = k := by have := congrArg List.length HK1.out; rw [List.length_map, rawS_len] at this; exact this
            rcases hown5.2 with ⟨_, h0⟩ | ⟨g5, cap5, cur5, h1, _⟩
            · omega
            · exact ⟨g5, cap5, by rw [← hKl]; exact h1⟩)
        clear hown5 hgrow5
        go_wp2_with fail
        go_roundw
        case rel => exact ⟨k + 1, by omega, by omega, by go_num, HROW.out⟩
        case measure => simp [intOf]; omega
      · have HE : Hid (min n 50 = k) := Lib.hid (by omega)
        go_wp2_with fail
        go_ret
        obtain ⟨K, h1, h2, h3⟩ := HRW.out.row
        exact ⟨_, rfl, by rw [HE.out]; exact ⟨K, h1, h2, h3⟩, by rw [HE.out, rawS_len]; exact HRW.out.form, HRW.out.low⟩
    · have HE : Hid (min n 50 = k) := Lib.hid (by omega)
      go_wp2_with fail
      go_ret
      obtain ⟨K, h1, h2, h3⟩ := HRW.out.row
      exact ⟨_, rfl, by rw [HE.out]; exact ⟨K, h1, h2, h3⟩, by rw [HE.out, rawS_len]; exact HRW.out.form, HRW.out.low⟩
end Go.Proofs.YtpeohfgadnfnpaaGreatDoor
