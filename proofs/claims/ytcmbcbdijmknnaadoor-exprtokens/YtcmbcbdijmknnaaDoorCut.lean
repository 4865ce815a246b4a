/-
  DERIVED. Layer 3: nodes that are handed in; the contract of the laws' Cut.
-/
import Derived.Test.YtcmbcbdijmknnaaDoorFixed
import Derived.Laws.BitsAllLaws
import Derived.Laws.BitsLemmas
namespace Go.Proofs.YtcmbcbdijmknnaaDoor
open Go.RowKit

/-- A node as it is handed in: whatever its numbers and its name. -/
structure RawN where
  op : Int
  n : Int
  name : ByteArray
  pl : Int
/-- A slice of nodes that is handed in. -/
def ArgN (w : World) (A : Option Addr) (n : Nat) (R : Nat → RawN) : Prop :=
  ∀ i, i < n → ∃ b off, A = some ⟨b, off, none⟩ ∧ b < w.heap.size ∧ w.cell? ⟨b, off + i * 4, none⟩ = some (.int .i64 (R i).op) ∧ w.cell? ⟨b, off + i * 4 + 1, none⟩ = some (.int .i64 (R i).n) ∧
    w.cell? ⟨b, off + i * 4 + 2, none⟩ = some (.string (R i).name) ∧ w.cell? ⟨b, off + i * 4 + 3, none⟩ = some (.int .i64 (R i).pl)
theorem ArgN.on {w w' : World} {A : Option Addr} {n : Nat} {R : Nat → RawN} (h : ArgN w A n R) (hb : Below w.heap.size w w') : ArgN w' A n R := by
  intro i hi
  obtain ⟨b, off, hA, hbl, h0, h1, h2, h3⟩ := h i hi
  have e : ∀ o, w'.cell? ⟨b, o, none⟩ = w.cell? ⟨b, o, none⟩ := fun o => hb.cell (p := ⟨b, o, none⟩) hbl
  exact ⟨b, off, hA, Nat.lt_of_lt_of_le hbl hb.size, (e _).trans h0, (e _).trans h1, (e _).trans h2, (e _).trans h3⟩
def rawNod (r : RawN) : Nod := ⟨r.op, r.n, (r.name.extract 0 (min (r.name.size : Int) 40).toNat).data.toList, r.pl⟩
def rawN (R : Nat → RawN) (k : Nat) : List Nod := (List.range k).map fun i => rawNod (R i)
theorem rawN_succ (R : Nat → RawN) (k : Nat) : rawN R (k + 1) = rawN R k ++ [rawNod (R k)] := by simp [rawN, List.range_succ]
theorem rawN_len (R : Nat → RawN) (k : Nat) : (rawN R k).length = k := by simp [rawN]
theorem rawN_small (R : Nat → RawN) (k : Nat) : SmallN (rawN R k) := by
  intro t ht
  simp only [rawN, List.mem_map] at ht
  obtain ⟨i, _, rfl⟩ := ht
  show ((R i).name.extract 0 (min ((R i).name.size : Int) 40).toNat).data.toList.length ≤ 100000
  rw [len_data, ByteArray.size_extract]; omega
theorem empty_nod (w : World) : OwnN (w.alloc (.cells #[] 30)) w.heap.size (.slice (some ⟨w.heap.size, 0, none⟩) 0 0) [] :=
  ⟨rfl, .inr ⟨w.heap.size, 0, #[], rfl, Nat.le_refl _, heap_alloc_new w _, by decide, by decide, rfl, rfl⟩⟩
theorem nod_cells {W2 : World} (a : Nod) : ∀ j u, (nodCells a)[j]? = some u → (W2.alloc (.cells #[.int .i64 a.op, .int .i64 a.n, .string ⟨a.name.toArray⟩, .int .i64 a.pl] 30)).cell? ((⟨W2.heap.size, 0, none⟩ : Addr).add j) = some u := by
  intro j u hu
  match j, hu with
  | 0, hu => simp [nodCells] at hu; subst hu; simp [Addr.add]
  | 1, hu => simp [nodCells] at hu; subst hu; simp [Addr.add]
  | 2, hu => simp [nodCells] at hu; subst hu; simp [Addr.add]
  | 3, hu => simp [nodCells] at hu; subst hu; simp [Addr.add]
  | n + 4, hu => simp [nodCells] at hu
theorem rawN_cells {W2 : World} (r : RawN) (t : ByteArray) (ht : t = r.name.extract 0 (min (r.name.size : Int) 40).toNat) (b : Nat) (hb : b = W2.heap.size) :
    ∀ j u, (nodCells (rawNod r))[j]? = some u → (W2.alloc (.cells #[.int .i64 r.op, .int .i64 r.n, .string t, .int .i64 r.pl] 30)).cell? ((⟨b, 0, none⟩ : Addr).add j) = some u := by
  subst hb
  have h := nod_cells (W2 := W2) (rawNod r)
  have e1 : (⟨(rawNod r).name.toArray⟩ : ByteArray) = t := by rw [ht]; apply bytes_ext; simp [rawNod]
  rw [e1] at h
  exact h
def GivesC (l : List Nod) (w : World) (e : Ending) (w' : World) : Prop := ∃ v, e = .returned v ∧ OwnN w' w.heap.size v l ∧ Below w.heap.size w w'

set_option maxRecDepth 100000 in
set_option maxHeartbeats 8000000 in
theorem cut_any (A : Option Addr) (n c : Nat) (R : Nat → RawN) (w : World) (hA : ArgN w A n R) : Calls Tryd.prog 16 #[.slice A n c] w (GivesC (rawN R (min n 60)) w) := by
  obtain ⟨i0, hi, hz0, hz1, hz2⟩ := info_parts info30
  have HZ := Lib.hid (show Tryd.prog.info? 30 = some i0 ∧ i0.zero = some (.agg #[.int .i64 0, .int .i64 0, .string ⟨#[]⟩, .int .i64 0]) ∧ i0.size = 4 ∧ i0.bytes = 40 from ⟨hi, hz0, hz1, hz2⟩)
  have HA := Lib.hid hA
  clear hi hz0 hz1 hz2 hA
  go_enter Tryd.func16, Tryd.ntmps16
  go_wp2_with fail
  go_loopw [3, 4] (fun v x wr => ∃ k : Nat, k ≤ n ∧ k ≤ 60 ∧ x = .int .i64 k ∧ OwnN wr w.heap.size v (rawN R k) ∧ Below w.heap.size w wr) (fun _ x _ => 60 - (intOf x).toNat)
  case atStart => exact ⟨0, Nat.zero_le _, Nat.zero_le _, rfl, empty_nod w, (Below.refl _ _).alloc (Nat.le_refl _) _⟩
  case round =>
    obtain ⟨k, hkn, hk60, rfl, hown, hbel⟩ := hrel
    have HO := Lib.hid hown
    have HB := Lib.hid hbel
    have hsz := hbel.size
    clear hown
    by_cases hlt : k < n
    · by_cases hl6 : k < 60
      · obtain ⟨b, off, hAA, hbl, y0, y1, y2, y3⟩ := HA.out k hlt
        subst hAA
        have x0 := (hbel.cell (p := ⟨b, off + k * 4, none⟩) hbl).trans y0
        have x1 := (hbel.cell (p := ⟨b, off + k * 4 + 1, none⟩) hbl).trans y1
        have x2 := (hbel.cell (p := ⟨b, off + k * 4 + 2, none⟩) hbl).trans y2
        have x3 := (hbel.cell (p := ⟨b, off + k * 4 + 3, none⟩) hbl).trans y3
        have HS := Lib.hid (rawN_succ R k)
        have hrl := rawN_len R k
        clear y0 y1 y2 y3 hbel
        generalize R k = r at *
        generalize hG : rawN R k = G at *
        have hG60 : G.length ≤ 59 := by omega
        clear hrl hG
        go_wp2_with (at_builtin; refine wpList_append_own _ rfl (.tmp 29) (.tmp 31) 24 rfl w.heap.size 30 i0 (.agg #[.int .i64 0, .int .i64 0, .string ⟨#[]⟩, .int .i64 0]) 4 40 Tryd.underlying24 HZ.out.1 HZ.out.2.1 HZ.out.2.2.1 HZ.out.2.2.2 rfl (by decide) _ G.length (cellsN G) rfl ?dO ⟨wr.heap.size + 1, 0, none⟩ 1 1 (nodCells (rawNod r)) rfl rfl ?d1 ?d2 ?d3 ?d4 ?d5 ?_)
        case dO => exact HO.out.on (((Below.refl _ _).alloc (Nat.le_refl _) _).alloc (by simp) _)
        case d1 => exact rawN_cells r _ rfl _ (by simp)
        case d2 => intro u hu; exact nod_one [rawNod r] u (by rw [cellsN_one]; exact hu)
        case d3 => unfold maxLen; omega
        case d4 => omega
        case d5 => simp; omega
        intro v5 w5 hown' hgrow _
        have HK5 : Hid (OwnN w5 w.heap.size v5 (G ++ [rawNod r])) := Lib.hid (by unfold OwnN; rw [cellsN_app, cellsN_one, List.length_append]; exact hown')
        have HL5 : Hid (Below w.heap.size w w5) := Lib.hid (((HB.out.alloc hsz _).alloc (by simp; omega) _).grown hgrow (by simp; omega) (fun k hk => (ownN_block HO.out k hk).1))
        clear hown' hgrow x0 x1 x2 x3
        go_wp2_with fail
        go_roundw
        case rel => exact ⟨k + 1, by omega, by omega, by go_num, by rw [HS.out]; exact HK5.out, HL5.out⟩
        case measure => simp [intOf]; omega
      · have HE : Hid (min n 60 = k) := Lib.hid (by omega)
        clear hbel
        go_wp2_with fail
        go_ret
        exact ⟨_, rfl, by rw [HE.out]; exact HO.out, HB.out⟩
    · have HE : Hid (min n 60 = k) := Lib.hid (by omega)
      clear hbel
      go_wp2_with fail
      go_ret
      exact ⟨_, rfl, by rw [HE.out]; exact HO.out, HB.out⟩
end Go.Proofs.YtcmbcbdijmknnaaDoor
