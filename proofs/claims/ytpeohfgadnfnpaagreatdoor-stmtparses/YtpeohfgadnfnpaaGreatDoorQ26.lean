/-
  DERIVED. Texts of the walk, packed: RefShow, RefBad, RefOps, RefRes.
-/
import Derived.Test.YtpeohfgadnfnpaaGreatDoorQ03
import Derived.Test.YtpeohfgadnfnpaaGreatDoorQ04
import Derived.Test.YtpeohfgadnfnpaaGreatDoorQ15
/-
  DERIVED. Layer 3: contracts of those that the laws hold Is and Place against.
-/
namespace Go.Proofs.YtpeohfgadnfnpaaGreatDoor
open Go.RowKit

theorem kinds_no {k : Int} (h1 : (k != 2) = true) (h2 : 1 ≤ k) (h3 : k ≤ 3) : (k == 1 || k == 3) = true := by
  simp at h1 ⊢; omega

set_option maxRecDepth 100000 in
set_option maxHeartbeats 4000000 in
theorem ris_any (v : Value) (L : List Tok) (i : Int) (s : ByteArray) (w : World) (h : ReadT w v L) : Calls Tryz.prog 44 #[v, .int .i64 i, .string s] w (TellsB (isB L i s.data.toList) w) := by
  by_cases hi : 0 ≤ i ∧ i < L.length
  · obtain ⟨k, rfl⟩ : ∃ k : Nat, i = (k : Int) := ⟨i.toNat, by omega⟩
    have hk : k < L.length := by omega
    have ha : L[k]? = some L[k] := List.getElem?_eq_getElem hk
    generalize L[k] = a at *
    have HR : Hid (isB L k s.data.toList = ((a.kind == 1 || a.kind == 3) && a.text == s.data.toList)) := Lib.hid (by unfold isB; rw [Int.toNat_natCast, ha]; simp)
    obtain ⟨A, c, hv, hc, hr⟩ := h
    obtain ⟨g, rfl, hg, x0, x1, x2, x3⟩ := hr k a ha
    subst hv
    clear hr ha
    cases e0 : (a.text == s.toList) with
    | false =>
      have HQ : Hid (isB L k s.data.toList = false) := Lib.hid (by rw [HR.out, ← ByteArray.toList_eq, e0, Bool.and_false])
      go_enter Tryz.func44, Tryz.ntmps44
      go_wp2_with fail
      go_ret
      exact ⟨ret_bool HQ.out.symm, Below.refl _ _⟩
    | true =>
      have HQ : Hid (isB L k s.data.toList = (a.kind == 1 || a.kind == 3)) := Lib.hid (by rw [HR.out, ← ByteArray.toList_eq, e0, Bool.and_true])
      cases e1 : (a.kind != 2) with
      | false =>
        have HK : Hid ((a.kind == 1 || a.kind == 3) = false) := Lib.hid (by simp at e1; rw [e1]; rfl)
        go_enter Tryz.func44, Tryz.ntmps44
        go_wp2_with fail
        go_ret
        exact ⟨ret_bool (by rw [HQ.out, HK.out]), Below.refl _ _⟩
      | true =>
        by_cases e2 : 1 ≤ a.kind
        · by_cases e3 : a.kind ≤ 3
          · have HK := Lib.hid (kinds_no e1 e2 e3)
            have d2 : decide (1 ≤ a.kind) = true := by simpa using e2
            have d3 : decide (a.kind ≤ 3) = true := by simpa using e3
            go_enter Tryz.func44, Tryz.ntmps44
            go_wp2_with fail
            go_ret
            exact ⟨ret_bool (by rw [HQ.out, HK.out]), Below.refl _ _⟩
          · have HK : Hid ((a.kind == 1 || a.kind == 3) = false) := Lib.hid (by simp; omega)
            go_enter Tryz.func44, Tryz.ntmps44
            go_wp2_with fail
            go_ret
            exact ⟨ret_bool (by rw [HQ.out, HK.out]), Below.refl _ _⟩
        · have HK : Hid ((a.kind == 1 || a.kind == 3) = false) := Lib.hid (by simp; omega)
          go_enter Tryz.func44, Tryz.ntmps44
          go_wp2_with fail
          go_ret
          exact ⟨ret_bool (by rw [HQ.out, HK.out]), Below.refl _ _⟩
  · have HR : Hid (isB L i s.data.toList = false) := Lib.hid (by
      unfold isB
      by_cases h0 : 0 ≤ i
      · rw [List.getElem?_eq_none (by omega)]; simp
      · simp [h0])
    obtain ⟨A, c, rfl, hc, hr⟩ := h
    clear hr
    by_cases h0 : 0 ≤ i
    · have h1 : ¬ i < (L.length : Int) := fun x => hi ⟨h0, x⟩
      clear hi
      go_enter Tryz.func44, Tryz.ntmps44
      go_wp2_with fail
      go_ret
      exact ⟨ret_bool HR.out.symm, Below.refl _ _⟩
    · clear hi
      go_enter Tryz.func44, Tryz.ntmps44
      go_wp2_with fail
      go_ret
      exact ⟨ret_bool HR.out.symm, Below.refl _ _⟩

set_option maxRecDepth 100000 in
set_option maxHeartbeats 4000000 in
theorem rplace_any (v : Value) (L : List Tok) (i : Int) (w : World) (h : ReadT w v L) (hl : L.length ≤ 10000) (hs : SmallT L) : Calls Tryz.prog 68 #[v, .int .i64 i] w (GivesN (placeV L i) w) := by
  by_cases hi : 0 ≤ i ∧ i < L.length
  · obtain ⟨k, rfl⟩ : ∃ k : Nat, i = (k : Int) := ⟨i.toNat, by omega⟩
    have hk : k < L.length := by omega
    have ha : L[k]? = some L[k] := List.getElem?_eq_getElem hk
    generalize L[k] = a at *
    have HR := Lib.hid (place_in ha)
    obtain ⟨A, c, hv, hc, hr⟩ := h
    obtain ⟨g, rfl, hg, x0, x1, x2, x3⟩ := hr k a ha
    subst hv
    clear hr ha hs
    go_enter Tryz.func68, Tryz.ntmps68
    go_wp2_with fail
    go_ret
    exact givesN_of rfl HR.out.symm (Below.refl _ _)
  · by_cases h0 : L = []
    · subst h0
      obtain ⟨A, c, rfl, hc, hr⟩ := h
      clear hr hs
      by_cases hp : 0 ≤ i
      · have h1 : ¬ i < ((([] : List Tok).length : Nat) : Int) := fun x => hi ⟨hp, x⟩
        clear hi
        go_enter Tryz.func68, Tryz.ntmps68
        go_wp2_with fail
        go_ret
        exact givesN_of rfl (place_nil i).symm (Below.refl _ _)
      · clear hi
        go_enter Tryz.func68, Tryz.ntmps68
        go_wp2_with fail
        go_ret
        exact givesN_of rfl (place_nil i).symm (Below.refl _ _)
    · have hpos : 0 < L.length := List.length_pos_iff.2 h0
      have ha : L[L.length - 1]? = some (L[L.length - 1]'(by omega)) := List.getElem?_eq_getElem (by omega)
      have hsm := hs _ (List.getElem_mem (show L.length - 1 < L.length by omega))
      generalize L[L.length - 1]'(by omega) = a at *
      have HR := Lib.hid (place_out hi ha)
      obtain ⟨A, c, hv, hc, hr⟩ := h
      obtain ⟨g, rfl, hg, x0, x1, x2, x3⟩ := hr _ a ha
      subst hv
      clear hr ha hs h0
      obtain ⟨n, hn⟩ : ∃ n, L.length = n + 1 := ⟨L.length - 1, by omega⟩
      rw [hn] at x0 x1 x2 x3 hc hl hi
      rw [show n + 1 - 1 = n from rfl] at x0 x1 x2 x3
      rw [show Value.slice (some ⟨g, 0, none⟩) L.length c = Value.slice (some ⟨g, 0, none⟩) (n + 1) c from by rw [hn]]
      clear hn hpos
      have hl0 : (((n : Int) + 1) == 0) = false := beq_eq_false_iff_ne.2 (by omega)
      have z1 : IntKind.i64.wrap ((n : Int) + 1 - 1) = (n : Int) := by rw [show (n : Int) + 1 - 1 = (n : Int) from by omega]; exact IntWalk.i64_in _ (by omega)
      have z2 : IntKind.i64.wrap ((a.pl : Int) + (a.text.length : Int)) = (a.pl : Int) + (a.text.length : Int) := IntWalk.i64_in _ (by omega)
      have b1 : (n : Int) < (n : Int) + 1 := by omega
      by_cases hp : 0 ≤ i
      · have h1 : ¬ i < ((n : Int) + 1) := fun x => hi ⟨hp, by omega⟩
        clear hi
        go_enter Tryz.func68, Tryz.ntmps68
        go_wp2_with fail
        go_quiet (fail)
        go_wp2_with fail
        go_ret
        exact givesN_of rfl HR.out.symm (below_drew1 _ _)
      · clear hi
        go_enter Tryz.func68, Tryz.ntmps68
        go_wp2_with fail
        go_quiet (fail)
        go_wp2_with fail
        go_ret
        exact givesN_of rfl HR.out.symm (below_drew1 _ _)
end Go.Proofs.YtpeohfgadnfnpaaGreatDoor
/-
  DERIVED. Layer 3: contracts of the document's bad and floor (leadlineref03).
-/
namespace Go.Proofs.YtpeohfgadnfnpaaGreatDoor
open Go.RowKit

/-- What the document's reader says of an error. -/
def SaysBad (er pl : Int) (w : World) (e : Ending) (w' : World) : Prop := e = .returned (.agg #[.slice none 0 0, .int .i64 0, .int .i64 er, .int .i64 pl]) ∧ Below w.heap.size w w'

/-- A box of four cells that may be written. -/
structure Pq (w : World) (g : Nat) (a b c d : Value) : Prop where
  lt : g < w.heap.size
  c0 : w.cell? ⟨g, 0, none⟩ = some a
  c1 : w.cell? ⟨g, 1, none⟩ = some b
  c2 : w.cell? ⟨g, 2, none⟩ = some c
  c3 : w.cell? ⟨g, 3, none⟩ = some d
  f0 : w.frozen? ⟨g, 0, none⟩ = false
  f1 : w.frozen? ⟨g, 1, none⟩ = false
  f2 : w.frozen? ⟨g, 2, none⟩ = false
  f3 : w.frozen? ⟨g, 3, none⟩ = false
theorem pq_new (w : World) (a b c d : Value) (t : TypeId) : Pq (w.alloc (.cells #[a, b, c, d] t)) w.heap.size a b c d := ⟨by simp, by simp, by simp, by simp, by simp, by simp, by simp, by simp, by simp⟩
theorem Pq.on {w w' : World} {g : Nat} {a b c d : Value} (h : Pq w g a b c d) (hb : Below w.heap.size w w') : Pq w' g a b c d :=
  ⟨Nat.lt_of_lt_of_le h.lt hb.size, (hb.cell (p := ⟨g, 0, none⟩) h.lt).trans h.c0, (hb.cell (p := ⟨g, 1, none⟩) h.lt).trans h.c1, (hb.cell (p := ⟨g, 2, none⟩) h.lt).trans h.c2, (hb.cell (p := ⟨g, 3, none⟩) h.lt).trans h.c3, (hb.frozen (p := ⟨g, 0, none⟩) h.lt).trans h.f0, (hb.frozen (p := ⟨g, 1, none⟩) h.lt).trans h.f1, (hb.frozen (p := ⟨g, 2, none⟩) h.lt).trans h.f2, (hb.frozen (p := ⟨g, 3, none⟩) h.lt).trans h.f3⟩
theorem Pq.set {w : World} {g : Nat} {a b c d : Value} (h : Pq w g a b c d) (a' b' c' d' : Value) : Pq ((((w.setCell ⟨g, 0, none⟩ a').setCell ⟨g, 1, none⟩ b').setCell ⟨g, 2, none⟩ c').setCell ⟨g, 3, none⟩ d') g a' b' c' d' := by
  have o : ∀ (w : World) (j k : Nat) (x : Value), j ≠ k → (w.setCell ⟨g, j, none⟩ x).cell? ⟨g, k, none⟩ = w.cell? ⟨g, k, none⟩ := fun w j k x hjk => World.cell?_setCell_other _ _ _ _ (fun e => hjk (congrArg Addr.off e))
  refine ⟨by simpa using h.lt, ?_, ?_, ?_, ?_, by simpa using h.f0, by simpa using h.f1, by simpa using h.f2, by simpa using h.f3⟩
  · rw [o _ 3 0 _ (by decide), o _ 2 0 _ (by decide), o _ 1 0 _ (by decide)]
    exact World.cell?_setCell_same _ _ _ h.c0
  · rw [o _ 3 1 _ (by decide), o _ 2 1 _ (by decide)]
    exact World.cell?_setCell_same _ _ _ (by rw [o _ 0 1 _ (by decide)]; exact h.c1)
  · rw [o _ 3 2 _ (by decide)]
    exact World.cell?_setCell_same _ _ _ (by rw [o _ 1 2 _ (by decide), o _ 0 2 _ (by decide)]; exact h.c2)
  · exact World.cell?_setCell_same _ _ _ (by rw [o _ 2 3 _ (by decide), o _ 1 3 _ (by decide), o _ 0 3 _ (by decide)]; exact h.c3)
theorem below_set4R {B g : Nat} {w w' : World} (h : Below B w w') (hg : B ≤ g) (a b c d : Value) : Below B w ((((w'.setCell ⟨g, 0, none⟩ a).setCell ⟨g, 1, none⟩ b).setCell ⟨g, 2, none⟩ c).setCell ⟨g, 3, none⟩ d) :=
  (((h.setCell hg _).setCell hg _).setCell hg _).setCell hg _

set_option maxRecDepth 100000 in
set_option maxHeartbeats 2000000 in
theorem rbad_any (v : Value) (L : List Tok) (i : Nat) (er : Int) (w : World) (h : ReadT w v L) (hl : L.length ≤ 10000) (hs : SmallT L) : Calls Tryz.prog 154 #[v, .int .i64 i, .int .i64 er] w (SaysBad (if L.length ≤ i then 6 else er) (placeV L i) w) := by
  have HR := Lib.hid h
  have HS := Lib.hid hs
  obtain ⟨A, c, rfl, hc, _⟩ := h
  have hb0 := (Below.refl w.heap.size w).alloc (Nat.le_refl _) (.cells #[.slice none 0 0, .int .i64 0, .int .i64 0, .int .i64 0] 160)
  have HB0 := Lib.hid hb0
  clear hs hb0
  by_cases hi : L.length ≤ i
  · have f1 : (L.length : Int) ≤ (i : Int) := by omega
    rw [if_pos hi]
    go_enter Tryz.func154, Tryz.ntmps154
    go_wp2_with fail
    refine (rplace_any _ L i _ (HR.out.on HB0.out) hl HS.out).mono ?_
    generalize placeV L i = pl at *
    rintro e w1 ⟨rfl, hb⟩
    have hq := (pq_new w (.slice none 0 0) (.int .i64 0) (.int .i64 0) (.int .i64 0) 160).on hb
    have HP := Lib.hid (hq.set (.slice none 0 0) (.int .i64 0) (.int .i64 6) (.int .i64 pl))
    obtain ⟨_, y0, y1, y2, y3, z0, z1, z2, z3⟩ := hq
    have HB := Lib.hid (below_set4R (below_then HB0.out hb) (Nat.le_refl _) (.slice none 0 0) (.int .i64 0) (.int .i64 6) (.int .i64 pl))
    clear hb
    go_wp2_with fail
    have hp := HP.out
    have hb := HB.out
    clear y0 y1 y2 y3 z0 z1 z2 z3
    generalize ((((w1.setCell ⟨w.heap.size, 0, none⟩ (.slice none 0 0)).setCell ⟨w.heap.size, 1, none⟩ (.int .i64 0)).setCell ⟨w.heap.size, 2, none⟩ (.int .i64 6)).setCell ⟨w.heap.size, 3, none⟩ (.int .i64 pl)) = W at *
    obtain ⟨_, y0, y1, y2, y3, _⟩ := hp
    exact bodyPost_ret (v := .agg #[.slice none 0 0, .int .i64 0, .int .i64 6, .int .i64 pl]) (by simp [results, Tryz.results154, go_sem, y0, y1, y2, y3]) rfl ⟨rfl, hb⟩
  · have f1 : ¬ (L.length : Int) ≤ (i : Int) := by omega
    rw [if_neg hi]
    go_enter Tryz.func154, Tryz.ntmps154
    go_wp2_with fail
    refine (rplace_any _ L i _ (HR.out.on HB0.out) hl HS.out).mono ?_
    generalize placeV L i = pl at *
    rintro e w1 ⟨rfl, hb⟩
    have hq := (pq_new w (.slice none 0 0) (.int .i64 0) (.int .i64 0) (.int .i64 0) 160).on hb
    have HP := Lib.hid (hq.set (.slice none 0 0) (.int .i64 0) (.int .i64 er) (.int .i64 pl))
    obtain ⟨_, y0, y1, y2, y3, z0, z1, z2, z3⟩ := hq
    have HB := Lib.hid (below_set4R (below_then HB0.out hb) (Nat.le_refl _) (.slice none 0 0) (.int .i64 0) (.int .i64 er) (.int .i64 pl))
    clear hb
    go_wp2_with fail
    have hp := HP.out
    have hb := HB.out
    clear y0 y1 y2 y3 z0 z1 z2 z3
    generalize ((((w1.setCell ⟨w.heap.size, 0, none⟩ (.slice none 0 0)).setCell ⟨w.heap.size, 1, none⟩ (.int .i64 0)).setCell ⟨w.heap.size, 2, none⟩ (.int .i64 er)).setCell ⟨w.heap.size, 3, none⟩ (.int .i64 pl)) = W at *
    obtain ⟨_, y0, y1, y2, y3, _⟩ := hp
    exact bodyPost_ret (v := .agg #[.slice none 0 0, .int .i64 0, .int .i64 er, .int .i64 pl]) (by simp [results, Tryz.results154, go_sem, y0, y1, y2, y3]) rfl ⟨rfl, hb⟩

/-! ### The operators of a floor. -/
def floorOps : Nat → List Int
  | 0 => [15]
  | 1 => [14]
  | 2 => [10, 11, 12, 13]
  | 3 => [5, 6]
  | 4 => [7, 8, 9]
  | _ => []
theorem cell_fresh (w : World) (xs : Array Value) (t : TypeId) (g j : Nat) (hg : g = w.heap.size) (u : Value) (hu : xs[j]? = some u) : (w.alloc (.cells xs t)).cell? ⟨g, j, none⟩ = some u := by
  subst hg
  rw [cell_of_row (w.alloc (.cells xs t)) w.heap.size j xs t (0, 0) (heap_alloc_new w _)]
  exact hu
/-- A new slice of numbers. -/
def SaysOps (l : List Int) (w : World) (e : Ending) (w' : World) : Prop :=
  ∃ g, e = .returned (.slice (some ⟨g, 0, none⟩) l.length l.length) ∧ w.heap.size ≤ g ∧ g < w'.heap.size ∧ (∀ j x, l[j]? = some x → w'.cell? ⟨g, j, none⟩ = some (.int .i64 x)) ∧ Below w.heap.size w w'

set_option maxRecDepth 100000 in
set_option maxHeartbeats 4000000 in
theorem rfloor_any (n : Nat) (hn : n < 5) (w : World) : Calls Tryz.prog 146 #[.int .i64 n] w (SaysOps (floorOps n) w) := by
  have h : n = 0 ∨ n = 1 ∨ n = 2 ∨ n = 3 ∨ n = 4 := by omega
  clear hn
  rcases h with rfl | rfl | rfl | rfl | rfl
  · go_enter Tryz.func146, Tryz.ntmps146
    go_wp2_with fail
    go_ret
    refine ⟨_, rfl, by omega, by simp <;> omega, ?_, by repeat (first | exact (Below.refl _ _).alloc (Nat.le_refl _) _ | refine Below.alloc ?_ (by simp <;> omega) _)⟩
    intro j x hj
    match j, hj with
    | 0, hj =>
      simp [floorOps] at hj
      subst hj
      rw [World.cell?_alloc_lt _ _ _ (by simp <;> omega), World.cell?_alloc_lt _ _ _ (by simp <;> omega), World.cell?_alloc_lt _ _ _ (by simp <;> omega), World.cell?_alloc_lt _ _ _ (by simp <;> omega), World.cell?_alloc_lt _ _ _ (by simp <;> omega)]
      exact cell_fresh _ _ _ _ _ (by simp) _ rfl
    | j + 1, hj => simp [floorOps] at hj
  · go_enter Tryz.func146, Tryz.ntmps146
    go_wp2_with fail
    go_ret
    refine ⟨_, rfl, by omega, by simp <;> omega, ?_, by repeat (first | exact (Below.refl _ _).alloc (Nat.le_refl _) _ | refine Below.alloc ?_ (by simp <;> omega) _)⟩
    intro j x hj
    match j, hj with
    | 0, hj =>
      simp [floorOps] at hj
      subst hj
      rw [World.cell?_alloc_lt _ _ _ (by simp <;> omega), World.cell?_alloc_lt _ _ _ (by simp <;> omega), World.cell?_alloc_lt _ _ _ (by simp <;> omega), World.cell?_alloc_lt _ _ _ (by simp <;> omega)]
      exact cell_fresh _ _ _ _ _ (by simp) _ rfl
    | j + 1, hj => simp [floorOps] at hj
  · go_enter Tryz.func146, Tryz.ntmps146
    go_wp2_with fail
    go_ret
    refine ⟨_, rfl, by omega, by simp <;> omega, ?_, by repeat (first | exact (Below.refl _ _).alloc (Nat.le_refl _) _ | refine Below.alloc ?_ (by simp <;> omega) _)⟩
    intro j x hj
    match j, hj with
    | 0, hj =>
      simp [floorOps] at hj
      subst hj
      rw [World.cell?_alloc_lt _ _ _ (by simp <;> omega), World.cell?_alloc_lt _ _ _ (by simp <;> omega), World.cell?_alloc_lt _ _ _ (by simp <;> omega)]
      exact cell_fresh _ _ _ _ _ (by simp) _ rfl
    | 1, hj =>
      simp [floorOps] at hj
      subst hj
      rw [World.cell?_alloc_lt _ _ _ (by simp <;> omega), World.cell?_alloc_lt _ _ _ (by simp <;> omega), World.cell?_alloc_lt _ _ _ (by simp <;> omega)]
      exact cell_fresh _ _ _ _ _ (by simp) _ rfl
    | 2, hj =>
      simp [floorOps] at hj
      subst hj
      rw [World.cell?_alloc_lt _ _ _ (by simp <;> omega), World.cell?_alloc_lt _ _ _ (by simp <;> omega), World.cell?_alloc_lt _ _ _ (by simp <;> omega)]
      exact cell_fresh _ _ _ _ _ (by simp) _ rfl
    | 3, hj =>
      simp [floorOps] at hj
      subst hj
      rw [World.cell?_alloc_lt _ _ _ (by simp <;> omega), World.cell?_alloc_lt _ _ _ (by simp <;> omega), World.cell?_alloc_lt _ _ _ (by simp <;> omega)]
      exact cell_fresh _ _ _ _ _ (by simp) _ rfl
    | j + 4, hj => simp [floorOps] at hj
  · go_enter Tryz.func146, Tryz.ntmps146
    go_wp2_with fail
    go_ret
    refine ⟨_, rfl, by omega, by simp <;> omega, ?_, by repeat (first | exact (Below.refl _ _).alloc (Nat.le_refl _) _ | refine Below.alloc ?_ (by simp <;> omega) _)⟩
    intro j x hj
    match j, hj with
    | 0, hj =>
      simp [floorOps] at hj
      subst hj
      rw [World.cell?_alloc_lt _ _ _ (by simp <;> omega), World.cell?_alloc_lt _ _ _ (by simp <;> omega)]
      exact cell_fresh _ _ _ _ _ (by simp) _ rfl
    | 1, hj =>
      simp [floorOps] at hj
      subst hj
      rw [World.cell?_alloc_lt _ _ _ (by simp <;> omega), World.cell?_alloc_lt _ _ _ (by simp <;> omega)]
      exact cell_fresh _ _ _ _ _ (by simp) _ rfl
    | j + 2, hj => simp [floorOps] at hj
  · go_enter Tryz.func146, Tryz.ntmps146
    go_wp2_with fail
    go_ret
    refine ⟨_, rfl, by omega, by simp <;> omega, ?_, by repeat (first | exact (Below.refl _ _).alloc (Nat.le_refl _) _ | refine Below.alloc ?_ (by simp <;> omega) _)⟩
    intro j x hj
    match j, hj with
    | 0, hj =>
      simp [floorOps] at hj
      subst hj
      rw [World.cell?_alloc_lt _ _ _ (by simp <;> omega)]
      exact cell_fresh _ _ _ _ _ (by simp) _ rfl
    | 1, hj =>
      simp [floorOps] at hj
      subst hj
      rw [World.cell?_alloc_lt _ _ _ (by simp <;> omega)]
      exact cell_fresh _ _ _ _ _ (by simp) _ rfl
    | 2, hj =>
      simp [floorOps] at hj
      subst hj
      rw [World.cell?_alloc_lt _ _ _ (by simp <;> omega)]
      exact cell_fresh _ _ _ _ _ (by simp) _ rfl
    | j + 3, hj => simp [floorOps] at hj
end Go.Proofs.YtpeohfgadnfnpaaGreatDoor
/-
  DERIVED. Layer 3: which operator of a floor stands at a place: nothing of the program's walks in it.
-/
namespace Go.Proofs.YtpeohfgadnfnpaaGreatDoor

/-- The last operator of a list whose sign stands at a place; 0, if there is none. -/
def lastOp (L : List Tok) (i : Nat) (l : List Int) : Int := l.foldl (fun acc op => if isB L i (signT op.toNat) = true then op else acc) 0
theorem isB_one {L : List Tok} {i : Nat} {s t : List UInt8} (h : isB L i s = true) (h2 : isB L i t = true) : s = t := by
  unfold isB at h h2
  simp only [Int.natCast_nonneg, Int.toNat_natCast] at h h2
  cases hl : L[i]? with
  | none => simp [hl] at h
  | some a =>
    simp [hl] at h h2
    rw [← h.2, ← h2.2]
theorem fold_none {L : List Tok} {i : Nat} : ∀ (l : List Int) (acc : Int), (∀ op ∈ l, isB L i (signT op.toNat) = false) → l.foldl (fun acc op => if isB L i (signT op.toNat) = true then op else acc) acc = acc
  | [], _, _ => rfl
  | a :: l, acc, h => by
    rw [List.foldl_cons, if_neg (by rw [h a (by simp)]; decide)]
    exact fold_none l acc (fun op ho => h op (by simp [ho]))
theorem fold_hit {L : List Tok} {i : Nat} {o : Int} (ho : isB L i (signT o.toNat) = true) : ∀ (l : List Int) (acc : Int), o ∈ l → (∀ op ∈ l, isB L i (signT op.toNat) = true → op = o) → l.foldl (fun acc op => if isB L i (signT op.toNat) = true then op else acc) acc = o
  | [], _, h, _ => by simp at h
  | a :: l, acc, h, hu => by
    rw [List.foldl_cons]
    by_cases hl : o ∈ l
    · exact fold_hit ho l _ hl (fun op h1 h2 => hu op (by simp [h1]) h2)
    · have ha : o = a := by
        rcases List.mem_cons.1 h with h | h
        · exact h
        · exact absurd h hl
      subst ha
      rw [if_pos ho]
      refine fold_none l o (fun op h1 => ?_)
      cases h2 : isB L i (signT op.toNat) with
      | false => rfl
      | true => exact absurd (hu op (by simp [h1]) h2 ▸ h1) hl
theorem floor_binds : ∀ n : Fin 5, ∀ op ∈ floorOps n, 3 ≤ op ∧ op ≤ 15 ∧ bindT op.toNat = ((n : Nat) : Int) + 1 := by decide
theorem floor_mem : ∀ (n : Fin 5) (op : Fin 16), bindT op = ((n : Nat) : Int) + 1 → ((op : Nat) : Int) ∈ floorOps n := by decide
theorem floor_apart : ∀ n : Fin 5, ∀ a ∈ floorOps n, ∀ b ∈ floorOps n, signT a.toNat = signT b.toNat → a = b := by decide
/-- The operator that stands at a place, as a floor finds it. -/
theorem last_sign {L : List Tok} {i n : Nat} (hn : n < 5) : lastOp L i (floorOps n) = (signAt L (n + 1) i : Nat) := by
  unfold lastOp
  by_cases h : signAt L (n + 1) i = 0
  · rw [h]
    refine fold_none _ _ (fun op ho => ?_)
    obtain ⟨h1, h2, h3⟩ := floor_binds ⟨n, hn⟩ op ho
    exact signAt_none (by omega) h op.toNat (by omega) (by rw [h3]; simp)
  · obtain ⟨h1, h2, h3⟩ := signAt_spec h
    have hm : ((signAt L (n + 1) i : Nat) : Int) ∈ floorOps n := floor_mem ⟨n, hn⟩ ⟨_, h1⟩ (by show bindT (signAt L (n + 1) i) = _; rw [h2]; simp)
    refine fold_hit (o := ((signAt L (n + 1) i : Nat) : Int)) (by simpa using h3) _ _ hm (fun op ho hb => ?_)
    exact floor_apart ⟨n, hn⟩ op ho _ hm (isB_one hb (by simpa using h3))
end Go.Proofs.YtpeohfgadnfnpaaGreatDoor
/-
  DERIVED. Layer 3: what the document's reader says of a reading, plain: nothing of the program's walks in it.
-/
namespace Go.Proofs.YtpeohfgadnfnpaaGreatDoor
open Go.RowKit

def toOf : Res → Nat
  | .ok _ tq => tq
  | .bad _ _ => 0
def plOf (L : List Tok) : Res → Int
  | .ok _ _ => 0
  | .bad _ j => placeV L j
def nodesOf : Res → List Nod
  | .ok x _ => x.flat
  | .bad _ _ => []
/-- What the document's reader comes back with. -/
def RGives (L : List Tok) (r : Res) (w : World) (e : Ending) (w' : World) : Prop :=
  ∃ (A : Option Addr) (n c : Nat), e = .returned (.agg #[.slice A n c, .int .i64 (toOf r : Nat), .int .i64 (errOf r), .int .i64 (plOf L r)]) ∧ OwnN w' w.heap.size (.slice A n c) (nodesOf r) ∧ Below w.heap.size w w'
def PrimeSays (L : List Tok) (f : Nat) : Prop := ∀ (i d : Nat) (r : Res) (v : Value) (w : World), d ≤ 12 → singleF L f i d = some r → ReadT w v L → Calls Tryz.prog 145 #[v, .int .i64 i, .int .i64 d] w (RGives L r w)
def FloorSays (L : List Tok) (f : Nat) : Prop := ∀ (n i d : Nat) (r : Res) (v : Value) (w : World), n ≤ 5 → d ≤ 12 → chainF L f (n + 1) i d = some r → ReadT w v L → Calls Tryz.prog 140 #[v, .int .i64 i, .int .i64 d, .int .i64 n] w (RGives L r w)
theorem rgives_bad {L : List Tok} {er : Int} {j : Nat} {pl : Int} {w w' : World} {e : Ending} (hp : pl = placeV L j) (h : SaysBad er pl w e w') : RGives L (.bad er j) w e w' := by
  obtain ⟨he, hb⟩ := h
  subst hp
  exact ⟨none, 0, 0, he, ownN_nil _ _, hb⟩

theorem sign6_neg {L : List Tok} {i : Nat} (h : isB L i [45] = true) : signAt L 6 i = 3 := by
  refine signAt_hit (k := 3) (by omega) (fun op ho => ?_) (by show (bindT 3 == ((6 : Nat) : Int) && isB L i (signT 3)) = true; rw [show signT 3 = [45] from rfl, h]; decide)
  match op, ho with
  | 0, _ => rfl
  | 1, _ => rfl
  | 2, _ => rfl
theorem sign6_not {L : List Tok} {i : Nat} (h : isB L i [33] = true) : signAt L 6 i = 4 := by
  have h3 : isB L i [45] = false := by
    cases h2 : isB L i [45] with
    | false => rfl
    | true => exact absurd (isB_one h h2) (by decide)
  refine signAt_hit (k := 4) (by omega) (fun op ho => ?_) (by show (bindT 4 == ((6 : Nat) : Int) && isB L i (signT 4)) = true; rw [show signT 4 = [33] from rfl, h]; decide)
  match op, ho with
  | 0, _ => rfl
  | 1, _ => rfl
  | 2, _ => rfl
  | 3, _ => show (bindT 3 == ((6 : Nat) : Int) && isB L i [45]) = false; rw [h3, Bool.and_false]
theorem sign6_none {L : List Tok} {i : Nat} (h : isB L i [45] = false) (h2 : isB L i [33] = false) : signAt L 6 i = 0 := by
  by_cases h0 : signAt L 6 i = 0
  · exact h0
  · obtain ⟨h3, h4, h5⟩ := signAt_spec h0
    exfalso
    have key : ∀ op : Fin 16, bindT op = 6 → op.1 = 3 ∨ op.1 = 4 := by decide
    rcases key ⟨_, h3⟩ h4 with e | e <;> (simp only at e; rw [e] at h5)
    · rw [show signT 3 = [45] from rfl, h] at h5; cases h5
    · rw [show signT 4 = [33] from rfl, h2] at h5; cases h5
theorem isB_text {L : List Tok} {i : Nat} {s : List UInt8} {t : Tok} (h : isB L i s = true) (ht : L[i]? = some t) : t.text = s := by
  unfold isB at h
  rw [Int.toNat_natCast, ht] at h
  simp at h
  exact h.2
/-- What reading comes to, by what stands at the place. -/
theorem single_out {L : List Tok} {f i d : Nat} {r : Res} (hr : singleF L (f + 1) i d = some r) (hi : L.length ≤ i) : r = .bad 6 i := by
  have h1 : isB L i [40] = false := by
    cases h : isB L i [40] with
    | false => rfl
    | true => have := isB_lt h; omega
  have h2 : signAt L 6 i = 0 := by
    by_cases h0 : signAt L 6 i = 0
    · exact h0
    · have := signAt_lt h0; omega
  rw [singleF, h1, if_neg (by simp), if_pos h2] at hr
  unfold leafR at hr
  rw [List.getElem?_eq_none hi] at hr
  exact (Option.some.inj hr).symm
theorem single_sign {L : List Tok} {f i d : Nat} {r : Res} {s : List UInt8} (hr : singleF L (f + 1) i d = some r) (hs : isB L i s = true) (hs2 : s = [45] ∨ s = [33]) :
    (d = 12 → r = .bad 7 i) ∧ (d ≠ 12 → ∃ r1, singleF L f (i + 1) (d + 1) = some r1 ∧ r = unR (signN L 6 i) r1) := by
  have h1 : isB L i [40] = false := by
    cases h : isB L i [40] with
    | false => rfl
    | true => have := isB_one h hs; rcases hs2 with rfl | rfl <;> cases this
  have h2 : signAt L 6 i ≠ 0 := by
    rcases hs2 with rfl | rfl
    · rw [sign6_neg hs]; decide
    · rw [sign6_not hs]; decide
  rw [singleF, h1, if_neg (by simp), if_neg h2] at hr
  refine ⟨fun hd => ?_, fun hd => ?_⟩
  · rw [if_pos hd] at hr; exact (Option.some.inj hr).symm
  · rw [if_neg hd] at hr
    cases hch : singleF L f (i + 1) (d + 1) with
    | none => rw [hch] at hr; cases hr
    | some r1 =>
      rw [hch] at hr
      refine ⟨r1, rfl, ?_⟩
      cases r1 with
      | ok x tq => exact (Option.some.inj hr).symm
      | bad e j => exact (Option.some.inj hr).symm
theorem single_open {L : List Tok} {f i d : Nat} {r : Res} (hr : singleF L (f + 1) i d = some r) (hs : isB L i [40] = true) :
    (d = 12 → r = .bad 7 i) ∧ (d ≠ 12 → ∃ r1, chainF L f 1 (i + 1) (d + 1) = some r1 ∧ r = parenR L r1) := by
  rw [singleF, hs, if_pos rfl] at hr
  refine ⟨fun hd => ?_, fun hd => ?_⟩
  · rw [if_pos hd] at hr; exact (Option.some.inj hr).symm
  · rw [if_neg hd] at hr
    cases hch : chainF L f 1 (i + 1) (d + 1) with
    | none => rw [hch] at hr; cases hr
    | some r1 =>
      rw [hch] at hr
      refine ⟨r1, rfl, ?_⟩
      cases r1 with
      | ok x tq =>
        simp only at hr
        show r = if isB L tq [41] = true then Res.ok x (tq + 1) else wrongV L tq
        split at hr
        · rw [if_pos (by assumption)]; exact (Option.some.inj hr).symm
        · rw [if_neg (by assumption)]; exact (Option.some.inj hr).symm
      | bad e j => exact (Option.some.inj hr).symm
theorem single_rest {L : List Tok} {f i d : Nat} {r : Res} {t : Tok} (hr : singleF L (f + 1) i d = some r) (h1 : isB L i [40] = false) (h2 : isB L i [45] = false) (h3 : isB L i [33] = false) (ht : L[i]? = some t) :
    r = if t.kind = 2 then .ok (.leaf ⟨1, t.n, [], t.pl⟩) (i + 1) else if t.kind = 1 ∧ nameB t.text = true then .ok (.leaf ⟨2, 0, t.text, t.pl⟩) (i + 1) else .bad 5 i := by
  rw [singleF, h1, if_neg (by simp), if_pos (sign6_none h2 h3)] at hr
  have := (Option.some.inj hr).symm
  unfold leafR at this
  rw [ht] at this
  exact this
end Go.Proofs.YtpeohfgadnfnpaaGreatDoor
