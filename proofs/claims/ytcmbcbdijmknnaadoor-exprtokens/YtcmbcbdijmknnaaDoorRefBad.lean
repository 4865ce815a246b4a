/-
  DERIVED. Layer 3: contracts of the document's bad and floor (leadlineref03).
-/
import Derived.Test.YtcmbcbdijmknnaaDoorRefShow
import Derived.Test.YtcmbcbdijmknnaaDoorNode
namespace Go.Proofs.YtcmbcbdijmknnaaDoor
open Go.RowKit

/-- What the document's reader says of an error. -/
def SaysBad (er pl : Int) (w : World) (e : Ending) (w' : World) : Prop := e = .returned (.agg #[.slice none 0 0, .int .i64 0, .int .i64 er, .int .i64 pl]) ∧ Below w.heap.size w w'

/-- A box of four cells that may be written. -/
structure Pq (w : World) (g : Nat) (a b c d : Value) : Prop where
  lt : g < w.heap.size
  c0 : w.cell? ⟨g, 0, none⟩ = some a
  c1 : w.cell? ⟨g, 1, none⟩ = some b
  c2 : w.cell? ⟨g, 2, none⟩ = some c
  c3 : w.cell? ⟨g, 3, none⟩ = some d
  f0 : w.frozen? ⟨g, 0, none⟩ = false
  f1 : w.frozen? ⟨g, 1, none⟩ = false
  f2 : w.frozen? ⟨g, 2, none⟩ = false
  f3 : w.frozen? ⟨g, 3, none⟩ = false
theorem pq_new (w : World) (a b c d : Value) (t : TypeId) : Pq (w.alloc (.cells #[a, b, c, d] t)) w.heap.size a b c d := ⟨by simp, by simp, by simp, by simp, by simp, by simp, by simp, by simp, by simp⟩
theorem Pq.on {w w' : World} {g : Nat} {a b c d : Value} (h : Pq w g a b c d) (hb : Below w.heap.size w w') : Pq w' g a b c d :=
  ⟨Nat.lt_of_lt_of_le h.lt hb.size, (hb.cell (p := ⟨g, 0, none⟩) h.lt).trans h.c0, (hb.cell (p := ⟨g, 1, none⟩) h.lt).trans h.c1, (hb.cell (p := ⟨g, 2, none⟩) h.lt).trans h.c2, (hb.cell (p := ⟨g, 3, none⟩) h.lt).trans h.c3, (hb.frozen (p := ⟨g, 0, none⟩) h.lt).trans h.f0, (hb.frozen (p := ⟨g, 1, none⟩) h.lt).trans h.f1, (hb.frozen (p := ⟨g, 2, none⟩) h.lt).trans h.f2, (hb.frozen (p := ⟨g, 3, none⟩) h.lt).trans h.f3⟩
theorem Pq.set {w : World} {g : Nat} {a b c d : Value} (h : Pq w g a b c d) (a' b' c' d' : Value) : Pq ((((w.setCell ⟨g, 0, none⟩ a').setCell ⟨g, 1, none⟩ b').setCell ⟨g, 2, none⟩ c').setCell ⟨g, 3, none⟩ d') g a' b' c' d' := by
  have o : ∀ (w : World) (j k : Nat) (x : Value), j ≠ k → (w.setCell ⟨g, j, none⟩ x).cell? ⟨g, k, none⟩ = w.cell? ⟨g, k, none⟩ := fun w j k x hjk => World.cell?_setCell_other _ _ _ _ (fun e => hjk (congrArg Addr.off e))
  refine ⟨by simpa using h.lt, ?_, ?_, ?_, ?_, by simpa using h.f0, by simpa using h.f1, by simpa using h.f2, by simpa using h.f3⟩
  · rw [o _ 3 0 _ (by decide), o _ 2 0 _ (by decide), o _ 1 0 _ (by decide)]
    exact World.cell?_setCell_same _ _ _ h.c0
  · rw [o _ 3 1 _ (by decide), o _ 2 1 _ (by decide)]
    exact World.cell?_setCell_same _ _ _ (by rw [o _ 0 1 _ (by decide)]; exact h.c1)
  · rw [o _ 3 2 _ (by decide)]
    exact World.cell?_setCell_same _ _ _ (by rw [o _ 1 2 _ (by decide), o _ 0 2 _ (by decide)]; exact h.c2)
  · exact World.cell?_setCell_same _ _ _ (by rw [o _ 2 3 _ (by decide), o _ 1 3 _ (by decide), o _ 0 3 _ (by decide)]; exact h.c3)
theorem below_set4R {B g : Nat} {w w' : World} (h : Below B w w') (hg : B ≤ g) (a b c d : Value) : Below B w ((((w'.setCell ⟨g, 0, none⟩ a).setCell ⟨g, 1, none⟩ b).setCell ⟨g, 2, none⟩ c).setCell ⟨g, 3, none⟩ d) :=
  (((h.setCell hg _).setCell hg _).setCell hg _).setCell hg _

set_option maxRecDepth 100000 in
set_option maxHeartbeats 2000000 in
theorem rbad_any (v : Value) (L : List Tok) (i : Nat) (er : Int) (w : World) (h : ReadT w v L) (hl : L.length ≤ 10000) (hs : SmallT L) : Calls Tryd.prog 66 #[v, .int .i64 i, .int .i64 er] w (SaysBad (if L.length ≤ i then 6 else er) (placeV L i) w) := by
  have HR := Lib.hid h
  have HS := Lib.hid hs
  obtain ⟨A, c, rfl, hc, _⟩ := h
  have hb0 := (Below.refl w.heap.size w).alloc (Nat.le_refl _) (.cells #[.slice none 0 0, .int .i64 0, .int .i64 0, .int .i64 0] 53)
  have HB0 := Lib.hid hb0
  clear hs hb0
  by_cases hi : L.length ≤ i
  · have f1 : (L.length : Int) ≤ (i : Int) := by omega
    rw [if_pos hi]
    go_enter Tryd.func66, Tryd.ntmps66
    go_wp2_with fail
    refine (rplace_any _ L i _ (HR.out.on HB0.out) hl HS.out).mono ?_
    generalize placeV L i = pl at *
    rintro e w1 ⟨rfl, hb⟩
    have hq := (pq_new w (.slice none 0 0) (.int .i64 0) (.int .i64 0) (.int .i64 0) 53).on hb
    have HP := Lib.hid (hq.set (.slice none 0 0) (.int .i64 0) (.int .i64 6) (.int .i64 pl))
    obtain ⟨_, y0, y1, y2, y3, z0, z1, z2, z3⟩ := hq
    have HB := Lib.hid (below_set4R (below_then HB0.out hb) (Nat.le_refl _) (.slice none 0 0) (.int .i64 0) (.int .i64 6) (.int .i64 pl))
    clear hb
    go_wp2_with fail
    have hp := HP.out
    have hb := HB.out
    clear y0 y1 y2 y3 z0 z1 z2 z3
    generalize ((((w1.setCell ⟨w.heap.size, 0, none⟩ (.slice none 0 0)).setCell ⟨w.heap.size, 1, none⟩ (.int .i64 0)).setCell ⟨w.heap.size, 2, none⟩ (.int .i64 6)).setCell ⟨w.heap.size, 3, none⟩ (.int .i64 pl)) = W at *
    obtain ⟨_, y0, y1, y2, y3, _⟩ := hp
    exact bodyPost_ret (v := .agg #[.slice none 0 0, .int .i64 0, .int .i64 6, .int .i64 pl]) (by simp [results, Tryd.results66, go_sem, y0, y1, y2, y3]) rfl ⟨rfl, hb⟩
  · have f1 : ¬ (L.length : Int) ≤ (i : Int) := by omega
    rw [if_neg hi]
    go_enter Tryd.func66, Tryd.ntmps66
    go_wp2_with fail
    refine (rplace_any _ L i _ (HR.out.on HB0.out) hl HS.out).mono ?_
    generalize placeV L i = pl at *
    rintro e w1 ⟨rfl, hb⟩
    have hq := (pq_new w (.slice none 0 0) (.int .i64 0) (.int .i64 0) (.int .i64 0) 53).on hb
    have HP := Lib.hid (hq.set (.slice none 0 0) (.int .i64 0) (.int .i64 er) (.int .i64 pl))
    obtain ⟨_, y0, y1, y2, y3, z0, z1, z2, z3⟩ := hq
    have HB := Lib.hid (below_set4R (below_then HB0.out hb) (Nat.le_refl _) (.slice none 0 0) (.int .i64 0) (.int .i64 er) (.int .i64 pl))
    clear hb
    go_wp2_with fail
    have hp := HP.out
    have hb := HB.out
    clear y0 y1 y2 y3 z0 z1 z2 z3
    generalize ((((w1.setCell ⟨w.heap.size, 0, none⟩ (.slice none 0 0)).setCell ⟨w.heap.size, 1, none⟩ (.int .i64 0)).setCell ⟨w.heap.size, 2, none⟩ (.int .i64 er)).setCell ⟨w.heap.size, 3, none⟩ (.int .i64 pl)) = W at *
    obtain ⟨_, y0, y1, y2, y3, _⟩ := hp
    exact bodyPost_ret (v := .agg #[.slice none 0 0, .int .i64 0, .int .i64 er, .int .i64 pl]) (by simp [results, Tryd.results66, go_sem, y0, y1, y2, y3]) rfl ⟨rfl, hb⟩

/-! ### The operators of a floor. -/
def floorOps : Nat → List Int
  | 0 => [15]
  | 1 => [14]
  | 2 => [10, 11, 12, 13]
  | 3 => [5, 6]
  | 4 => [7, 8, 9]
  | _ => []
theorem cell_fresh (w : World) (xs : Array Value) (t : TypeId) (g j : Nat) (hg : g = w.heap.size) (u : Value) (hu : xs[j]? = some u) : (w.alloc (.cells xs t)).cell? ⟨g, j, none⟩ = some u := by
  subst hg
  rw [cell_of_row (w.alloc (.cells xs t)) w.heap.size j xs t (0, 0) (heap_alloc_new w _)]
  exact hu
/-- A new slice of numbers. -/
def SaysOps (l : List Int) (w : World) (e : Ending) (w' : World) : Prop :=
  ∃ g, e = .returned (.slice (some ⟨g, 0, none⟩) l.length l.length) ∧ w.heap.size ≤ g ∧ g < w'.heap.size ∧ (∀ j x, l[j]? = some x → w'.cell? ⟨g, j, none⟩ = some (.int .i64 x)) ∧ Below w.heap.size w w'

set_option maxRecDepth 100000 in
set_option maxHeartbeats 4000000 in
theorem rfloor_any (n : Nat) (hn : n < 5) (w : World) : Calls Tryd.prog 51 #[.int .i64 n] w (SaysOps (floorOps n) w) := by
  have h : n = 0 ∨ n = 1 ∨ n = 2 ∨ n = 3 ∨ n = 4 := by omega
  clear hn
  rcases h with rfl | rfl | rfl | rfl | rfl
  · go_enter Tryd.func51, Tryd.ntmps51
    go_wp2_with fail
    go_ret
    refine ⟨_, rfl, by omega, by simp <;> omega, ?_, by repeat (first | exact (Below.refl _ _).alloc (Nat.le_refl _) _ | refine Below.alloc ?_ (by simp <;> omega) _)⟩
    intro j x hj
    match j, hj with
    | 0, hj =>
      simp [floorOps] at hj
      subst hj
      rw [World.cell?_alloc_lt _ _ _ (by simp <;> omega), World.cell?_alloc_lt _ _ _ (by simp <;> omega), World.cell?_alloc_lt _ _ _ (by simp <;> omega), World.cell?_alloc_lt _ _ _ (by simp <;> omega), World.cell?_alloc_lt _ _ _ (by simp <;> omega)]
      exact cell_fresh _ _ _ _ _ (by simp) _ rfl
    | j + 1, hj => simp [floorOps] at hj
  · go_enter Tryd.func51, Tryd.ntmps51
    go_wp2_with fail
    go_ret
    refine ⟨_, rfl, by omega, by simp <;> omega, ?_, by repeat (first | exact (Below.refl _ _).alloc (Nat.le_refl _) _ | refine Below.alloc ?_ (by simp <;> omega) _)⟩
    intro j x hj
    match j, hj with
    | 0, hj =>
      simp [floorOps] at hj
      subst hj
      rw [World.cell?_alloc_lt _ _ _ (by simp <;> omega), World.cell?_alloc_lt _ _ _ (by simp <;> omega), World.cell?_alloc_lt _ _ _ (by simp <;> omega), World.cell?_alloc_lt _ _ _ (by simp <;> omega)]
      exact cell_fresh _ _ _ _ _ (by simp) _ rfl
    | j + 1, hj => simp [floorOps] at hj
  · go_enter Tryd.func51, Tryd.ntmps51
    go_wp2_with fail
    go_ret
    refine ⟨_, rfl, by omega, by simp <;> omega, ?_, by repeat (first | exact (Below.refl _ _).alloc (Nat.le_refl _) _ | refine Below.alloc ?_ (by simp <;> omega) _)⟩
    intro j x hj
    match j, hj with
    | 0, hj =>
      simp [floorOps] at hj
      subst hj
      rw [World.cell?_alloc_lt _ _ _ (by simp <;> omega), World.cell?_alloc_lt _ _ _ (by simp <;> omega), World.cell?_alloc_lt _ _ _ (by simp <;> omega)]
      exact cell_fresh _ _ _ _ _ (by simp) _ rfl
    | 1, hj =>
      simp [floorOps] at hj
      subst hj
      rw [World.cell?_alloc_lt _ _ _ (by simp <;> omega), World.cell?_alloc_lt _ _ _ (by simp <;> omega), World.cell?_alloc_lt _ _ _ (by simp <;> omega)]
      exact cell_fresh _ _ _ _ _ (by simp) _ rfl
    | 2, hj =>
      simp [floorOps] at hj
      subst hj
      rw [World.cell?_alloc_lt _ _ _ (by simp <;> omega), World.cell?_alloc_lt _ _ _ (by simp <;> omega), World.cell?_alloc_lt _ _ _ (by simp <;> omega)]
      exact cell_fresh _ _ _ _ _ (by simp) _ rfl
    | 3, hj =>
      simp [floorOps] at hj
      subst hj
      rw [World.cell?_alloc_lt _ _ _ (by simp <;> omega), World.cell?_alloc_lt _ _ _ (by simp <;> omega), World.cell?_alloc_lt _ _ _ (by simp <;> omega)]
      exact cell_fresh _ _ _ _ _ (by simp) _ rfl
    | j + 4, hj => simp [floorOps] at hj
  · go_enter Tryd.func51, Tryd.ntmps51
    go_wp2_with fail
    go_ret
    refine ⟨_, rfl, by omega, by simp <;> omega, ?_, by repeat (first | exact (Below.refl _ _).alloc (Nat.le_refl _) _ | refine Below.alloc ?_ (by simp <;> omega) _)⟩
    intro j x hj
    match j, hj with
    | 0, hj =>
      simp [floorOps] at hj
      subst hj
      rw [World.cell?_alloc_lt _ _ _ (by simp <;> omega), World.cell?_alloc_lt _ _ _ (by simp <;> omega)]
      exact cell_fresh _ _ _ _ _ (by simp) _ rfl
    | 1, hj =>
      simp [floorOps] at hj
      subst hj
      rw [World.cell?_alloc_lt _ _ _ (by simp <;> omega), World.cell?_alloc_lt _ _ _ (by simp <;> omega)]
      exact cell_fresh _ _ _ _ _ (by simp) _ rfl
    | j + 2, hj => simp [floorOps] at hj
  · go_enter Tryd.func51, Tryd.ntmps51
    go_wp2_with fail
    go_ret
    refine ⟨_, rfl, by omega, by simp <;> omega, ?_, by repeat (first | exact (Below.refl _ _).alloc (Nat.le_refl _) _ | refine Below.alloc ?_ (by simp <;> omega) _)⟩
    intro j x hj
    match j, hj with
    | 0, hj =>
      simp [floorOps] at hj
      subst hj
      rw [World.cell?_alloc_lt _ _ _ (by simp <;> omega)]
      exact cell_fresh _ _ _ _ _ (by simp) _ rfl
    | 1, hj =>
      simp [floorOps] at hj
      subst hj
      rw [World.cell?_alloc_lt _ _ _ (by simp <;> omega)]
      exact cell_fresh _ _ _ _ _ (by simp) _ rfl
    | 2, hj =>
      simp [floorOps] at hj
      subst hj
      rw [World.cell?_alloc_lt _ _ _ (by simp <;> omega)]
      exact cell_fresh _ _ _ _ _ (by simp) _ rfl
    | j + 3, hj => simp [floorOps] at hj
end Go.Proofs.YtcmbcbdijmknnaaDoor
