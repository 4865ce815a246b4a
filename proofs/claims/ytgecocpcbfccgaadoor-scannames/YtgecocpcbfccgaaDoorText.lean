/-
  DERIVED. Layer 2: the contract of scan.Show, and of the one that the laws hold it against.
-/
import Derived.Test.YtgecocpcbfccgaaDoorShow
namespace Go.Proofs.YtgecocpcbfccgaaDoor
open Go.RowKit

/-- Tokens as a text. -/
def showL (L : List Tok) : List UInt8 := Lib.join (L.map (·.text)) [32]
def textVals (L : List Tok) : List Value := L.map fun t => .string ⟨t.text.toArray⟩
theorem showL_nil : showL [] = [] := rfl
theorem showL_snoc (L : List Tok) (t : Tok) : showL (L ++ [t]) = if L = [] then t.text else showL L ++ [32] ++ t.text := by
  unfold showL
  cases L with
  | nil => simp [Lib.join_one]
  | cons a L =>
    rw [if_neg (by simp)]
    rw [List.cons_append, List.map_cons, List.map_cons, Lib.join_cons, Lib.join_cons]
    unfold Lib.joinTail
    simp
theorem textVals_snoc (L : List Tok) (k : Nat) (a : Tok) (h : L[k]? = some a) : textVals (L.take (k + 1)) = textVals (L.take k) ++ [.string ⟨a.text.toArray⟩] := by
  unfold textVals; rw [List.take_add_one, h]; simp
theorem info9 : (Tryd.prog.info? 9).map (fun i => (i.zero, i.size, i.bytes)) = some (some (.string ⟨#[]⟩), 1, 16) := by kernel_rfl
def GivesSB (l : List UInt8) (w : World) (e : Ending) (w' : World) : Prop := e = .returned (.string ⟨l.toArray⟩) ∧ Below w.heap.size w w'

theorem own1_block {w : World} {B n : Nat} {v : Value} {xs : List Value} (h : w.ownsRow B 9 1 v n xs) : ∀ g, v.ownBlock = some g → B ≤ g := by
  intro g hg
  rcases h.2 with ⟨rfl, _⟩ | ⟨g', cap, cur, rfl, hB, hh, _⟩
  · simp [Value.ownBlock] at hg
  · simp [Value.ownBlock] at hg
    subst hg
    exact hB
theorem join_own {w : World} {B : Nat} {v : Value} {L : List Tok} (h : w.ownsRow B 9 1 v L.length (textVals L)) (hlen : (showL L).length ≤ 100000) (hn : L.length ≤ 10000) :
    Calls Tryd.prog 36 #[v, .string ⟨#[32]⟩] w (GivesSB (showL L) w) := by
  by_cases h0 : L = []
  · subst h0
    rcases h.2 with ⟨rfl, _⟩ | ⟨g, cap, cur, rfl, _⟩
    · exact (Tryd.strings_Join_none none 0 _ w).mono fun e w' h => ⟨h.1, by rw [h.2]; exact Below.refl _ _⟩
    · exact (Tryd.strings_Join_none _ cap _ w).mono fun e w' h => ⟨h.1, by rw [h.2]; exact Below.refl _ _⟩
  · have hp : 0 < L.length := List.length_pos_iff.2 h0
    rcases h.2 with ⟨rfl, h1⟩ | ⟨g, cap, cur, rfl, hB, hh, hc, hm, hs, hx⟩
    · omega
    · have key := Tryd.strings_Join g 0 cap (L.map fun t => ⟨t.text.toArray⟩) ⟨#[32]⟩ w (fun j x hj => by
        rw [cell_of_row w g _ cur 9 (0, 0) hh]
        have e : (textVals L)[j]? = some (.string x) := by
          unfold textVals
          rw [List.getElem?_map] at hj ⊢
          cases hl : L[j]? with
          | none => rw [hl] at hj; simp at hj
          | some t => rw [hl] at hj; simp at hj; subst hj; rfl
        rw [← hx, List.getElem?_take] at e
        split at e
        · simpa using e
        · cases e) (Array.getElem?_eq_some_iff.1 hh).1 (by simp; omega) (by simpa using hc) (by
          simp only [List.map_map]
          have : (fun t : Tok => t.text) = ((fun x : ByteArray => x.data.toList) ∘ fun t : Tok => (⟨t.text.toArray⟩ : ByteArray)) := by funext t; simp
          rw [← this]
          have := hlen
          unfold showL at this
          exact Nat.le_trans this (by decide))
      simp only [List.length_map, List.map_map] at key
      have : (fun t : Tok => t.text) = ((fun x : ByteArray => x.data.toList) ∘ fun t : Tok => (⟨t.text.toArray⟩ : ByteArray)) := by funext t; simp
      rw [← this] at key
      exact key

set_option maxRecDepth 100000 in
set_option maxHeartbeats 2000000 in
theorem show_any (v : Value) (L : List Tok) (w : World) (h : ReadT w v L) (hl : L.length ≤ 10000) (hs : (showL L).length ≤ 100000) : Calls Tryd.prog 18 #[v] w (GivesSB (showL L) w) := by
  obtain ⟨i0, hi, hz0, hz1, hz2⟩ := info_parts info9
  have HZ := Lib.hid (show Tryd.prog.info? 9 = some i0 ∧ i0.zero = some (.string ⟨#[]⟩) ∧ i0.size = 1 ∧ i0.bytes = 16 from ⟨hi, hz0, hz1, hz2⟩)
  clear hi hz0 hz1 hz2
  obtain ⟨A, c, rfl, hc, hr⟩ := h
  have HR := Lib.hid hr
  have HS := Lib.hid hs
  clear hr hs
  go_enter Tryd.func18, Tryd.ntmps18
  go_wp2_with fail
  go_loopw [3, 8] (fun v i wr => ∃ k : Nat, k ≤ L.length ∧ i = .int .i64 k ∧ wr.ownsRow w.heap.size 9 1 v k (textVals (L.take k)) ∧ Below w.heap.size w wr) (fun _ i _ => L.length - (intOf i).toNat)
  case atStart => exact ⟨0, Nat.zero_le _, rfl, World.ownsRow_nil _ _ _ _, Below.refl _ _⟩
  case round =>
    obtain ⟨k, hk, rfl, hown, hbel⟩ := hrel
    have HO := Lib.hid hown
    have HB := Lib.hid hbel
    have hsz := hbel.size
    clear hown
    by_cases hlt : k < L.length
    · have ha : L[k]? = some L[k] := List.getElem?_eq_getElem hlt
      generalize L[k] = a at *
      have HT := Lib.hid (textVals_snoc L k a ha)
      obtain ⟨g, rfl, hg, x0, x1, x2, x3⟩ := HR.out k a ha
      have y0 := (hbel.cell (p := ⟨g, k * 4, none⟩) hg).trans x0
      have y1 := (hbel.cell (p := ⟨g, k * 4 + 1, none⟩) hg).trans x1
      have y2 := (hbel.cell (p := ⟨g, k * 4 + 2, none⟩) hg).trans x2
      have y3 := (hbel.cell (p := ⟨g, k * 4 + 3, none⟩) hg).trans x3
      clear ha x0 x1 x2 x3 hbel
      go_wp2_with (at_builtin; refine wpList_append_own _ rfl (.tmp 12) (.tmp 15) 45 rfl w.heap.size 9 i0 (.string ⟨#[]⟩) 1 16 Tryd.underlying45 HZ.out.1 HZ.out.2.1 HZ.out.2.2.1 HZ.out.2.2.2 rfl (by decide) _ k (textVals (L.take k)) rfl ?cO ⟨wr.heap.size + 1, 0, none⟩ 1 1 [.string ⟨a.text.toArray⟩] rfl rfl ?c1 ?c2 ?c3 ?c4 ?c5 ?_)
      case cO => exact (HO.out.alloc _).alloc _
      case c1 =>
        intro j u hj
        match j, hj with
        | 0, hj => simp at hj; subst hj; simp [Addr.add]
      case c2 => intro u hu; simp at hu; subst hu; rfl
      case c3 => unfold maxLen; omega
      case c4 => omega
      case c5 => simp; omega
      intro v' w3 hown' hgrow _
      have HO' := Lib.hid hown'
      have HB' : Hid (Below w.heap.size w w3) := Lib.hid (((HB.out.alloc hsz _).alloc (by simp; omega) _).grown hgrow (by simp; omega) (own1_block HO.out))
      clear hown' hgrow y0 y1 y2 y3
      go_wp2_with fail
      go_roundw
      case rel => exact ⟨k + 1, by omega, by go_num, by rw [HT.out]; exact HO'.out, HB'.out⟩
      case measure => simp [intOf]; omega
    · obtain rfl : k = L.length := by omega
      have hO := HO.out
      rw [List.take_of_length_le (Nat.le_refl _)] at hO
      have HO2 := Lib.hid hO
      clear hO hbel
      go_wp2_with fail
      refine (join_own HO2.out HS.out hl).mono ?_
      rintro e w1 ⟨rfl, hb⟩
      go_wp2_with fail
      go_ret
      exact ⟨rfl, below_then HB.out hb⟩
end Go.Proofs.YtgecocpcbfccgaaDoor
