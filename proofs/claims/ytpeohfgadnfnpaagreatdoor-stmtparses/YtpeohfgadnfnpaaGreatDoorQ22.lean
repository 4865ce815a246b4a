/-
  DERIVED. Layer 4: contracts of the closures by which stmt.hasItsOwn asks, and of hasItsOwn itself.
-/
import Derived.Test.YtpeohfgadnfnpaaGreatDoorQ21
import Derived.Test.YtpeohfgadnfnpaaGreatDoorQ06
import Derived.Test.YtpeohfgadnfnpaaGreatDoorQ15
import Derived.Laws.EntriesVeiled
namespace Go.Proofs.YtpeohfgadnfnpaaGreatDoor
open Go.RowKit

theorem name_l (l : List UInt8) (w : World) (h : l.length ≤ 100000) : Calls Tryz.prog 75 #[.string ⟨l.toArray⟩] w (TellsB (nameB l) w) := by
  have := name_any ⟨l.toArray⟩ w (by show l.toArray.size ≤ 100000; simpa using h)
  simpa using this
set_option maxHeartbeats 1000000 in
theorem q74 {g : Nat} {l : List UInt8} (w : World) (hc : w.cell? ⟨g, 1, none⟩ = some (.string ⟨l.toArray⟩)) (hl : l.length ≤ 100000) : Calls Tryz.prog 74 #[.pointer (some ⟨g, 0, none⟩)] w (TellsB (nameB l) w) := by
  go_enter Tryz.func74, Tryz.ntmps74
  go_wp2_with fail
  refine (name_l l _ hl).mono ?_
  rintro e w' ⟨rfl, hb⟩
  go_wp2_with fail
  go_ret
  exact ⟨rfl, hb⟩
set_option maxHeartbeats 1000000 in
theorem q77 {g : Nat} {l : List UInt8} (w : World) (hc : w.cell? ⟨g, 2, none⟩ = some (.string ⟨l.toArray⟩)) (hl : l.length ≤ 100000) : Calls Tryz.prog 77 #[.pointer (some ⟨g, 0, none⟩)] w (TellsB (nameB l) w) := by
  go_enter Tryz.func77, Tryz.ntmps77
  go_wp2_with fail
  refine (name_l l _ hl).mono ?_
  rintro e w' ⟨rfl, hb⟩
  go_wp2_with fail
  go_ret
  exact ⟨rfl, hb⟩
set_option maxHeartbeats 1000000 in
theorem q76 {g : Nat} {l : List UInt8} (w : World) (hc : w.cell? ⟨g, 1, none⟩ = some (.string ⟨l.toArray⟩)) : Calls Tryz.prog 76 #[.pointer (some ⟨g, 0, none⟩)] w (TellsB l.isEmpty w) := by
  cases l with
  | nil =>
    go_enter Tryz.func76, Tryz.ntmps76
    go_wp2_with fail
    go_ret
    exact ⟨rfl, Below.refl _ _⟩
  | cons a t =>
    go_enter Tryz.func76, Tryz.ntmps76
    go_wp2_with fail
    go_ret
    exact ⟨ret_bool (by simp), Below.refl _ _⟩
set_option maxHeartbeats 1000000 in
theorem q78 {g : Nat} {l : List UInt8} (w : World) (hc : w.cell? ⟨g, 2, none⟩ = some (.string ⟨l.toArray⟩)) : Calls Tryz.prog 78 #[.pointer (some ⟨g, 0, none⟩)] w (TellsB l.isEmpty w) := by
  cases l with
  | nil =>
    go_enter Tryz.func78, Tryz.ntmps78
    go_wp2_with fail
    go_ret
    exact ⟨rfl, Below.refl _ _⟩
  | cons a t =>
    go_enter Tryz.func78, Tryz.ntmps78
    go_wp2_with fail
    go_ret
    exact ⟨ret_bool (by simp), Below.refl _ _⟩
set_option maxHeartbeats 1000000 in
theorem q79 {g : Nat} {v : Value} {L : List Nod} (w : World) (hc : w.cell? ⟨g, 3, none⟩ = some v) (hr : ReadN w v L) (hl : L.length ≤ 10000) (hs : SmallN L) : Calls Tryz.prog 79 #[.pointer (some ⟨g, 0, none⟩)] w (TellsB (rightL L) w) := by
  obtain ⟨A, c, rfl, _⟩ := id hr
  go_enter Tryz.func79, Tryz.ntmps79
  go_wp2_with fail
  refine (right_any _ L _ hr hl hs).mono ?_
  rintro e w' ⟨rfl, hb⟩
  go_wp2_with fail
  go_ret
  exact ⟨rfl, hb⟩
set_option maxHeartbeats 1000000 in
theorem q82 {g : Nat} {v : Value} {L : List Nod} (w : World) (hc : w.cell? ⟨g, 4, none⟩ = some v) (hr : ReadN w v L) (hl : L.length ≤ 10000) (hs : SmallN L) : Calls Tryz.prog 82 #[.pointer (some ⟨g, 0, none⟩)] w (TellsB (rightL L) w) := by
  obtain ⟨A, c, rfl, _⟩ := id hr
  go_enter Tryz.func82, Tryz.ntmps82
  go_wp2_with fail
  refine (right_any _ L _ hr hl hs).mono ?_
  rintro e w' ⟨rfl, hb⟩
  go_wp2_with fail
  go_ret
  exact ⟨rfl, hb⟩
set_option maxHeartbeats 1000000 in
theorem q81 {g : Nat} {v : Value} {L : List Nod} (w : World) (hc : w.cell? ⟨g, 3, none⟩ = some v) (hr : ReadN w v L) : Calls Tryz.prog 81 #[.pointer (some ⟨g, 0, none⟩)] w (TellsB L.isEmpty w) := by
  obtain ⟨A, c, rfl, _⟩ := id hr
  clear hr
  cases L with
  | nil =>
    go_enter Tryz.func81, Tryz.ntmps81
    go_wp2_with fail
    go_ret
    exact ⟨rfl, Below.refl _ _⟩
  | cons a t =>
    go_enter Tryz.func81, Tryz.ntmps81
    go_wp2_with fail
    go_ret
    exact ⟨ret_bool (by simp; omega), Below.refl _ _⟩
set_option maxHeartbeats 1000000 in
theorem q83 {g : Nat} {v : Value} {L : List Nod} (w : World) (hc : w.cell? ⟨g, 4, none⟩ = some v) (hr : ReadN w v L) : Calls Tryz.prog 83 #[.pointer (some ⟨g, 0, none⟩)] w (TellsB L.isEmpty w) := by
  obtain ⟨A, c, rfl, _⟩ := id hr
  clear hr
  cases L with
  | nil =>
    go_enter Tryz.func83, Tryz.ntmps83
    go_wp2_with fail
    go_ret
    exact ⟨rfl, Below.refl _ _⟩
  | cons a t =>
    go_enter Tryz.func83, Tryz.ntmps83
    go_wp2_with fail
    go_ret
    exact ⟨ret_bool (by simp; omega), Below.refl _ _⟩
set_option maxHeartbeats 1000000 in
theorem looped_any (n : Int) (w : World) : Calls Tryz.prog 85 #[.int .i64 n] w (TellsB (decide (1 ≤ n) && decide (n ≤ 8)) w) := by
  by_cases h : 1 ≤ n
  · go_enter Tryz.func85, Tryz.ntmps85
    go_wp2_with fail
    go_ret
    exact ⟨ret_bool (by simp [h]), Below.refl _ _⟩
  · go_enter Tryz.func85, Tryz.ntmps85
    go_wp2_with fail
    go_ret
    exact ⟨ret_bool (by simp; omega), Below.refl _ _⟩
set_option maxHeartbeats 1000000 in
theorem q84 {g : Nat} {n : Int} (w : World) (hc : w.cell? ⟨g, 5, none⟩ = some (.int .i64 n)) : Calls Tryz.prog 84 #[.pointer (some ⟨g, 0, none⟩)] w (TellsB (decide (1 ≤ n) && decide (n ≤ 8)) w) := by
  go_enter Tryz.func84, Tryz.ntmps84
  go_wp2_with fail
  refine (looped_any n _).mono ?_
  rintro e w' ⟨rfl, hb⟩
  go_wp2_with fail
  go_ret
  exact ⟨rfl, hb⟩
set_option maxHeartbeats 1000000 in
theorem q86 {g : Nat} {n : Int} (w : World) (hc : w.cell? ⟨g, 5, none⟩ = some (.int .i64 n)) : Calls Tryz.prog 86 #[.pointer (some ⟨g, 0, none⟩)] w (TellsB (decide (n = 0)) w) := by
  go_enter Tryz.func86, Tryz.ntmps86
  go_wp2_with fail
  go_ret
  exact ⟨ret_bool (Bool.eq_iff_iff.2 (by simp)), Below.refl _ _⟩
set_option maxHeartbeats 1000000 in
theorem q87 {g : Nat} {n m : Int} (w : World) (hc : w.cell? ⟨g, 6, none⟩ = some (.int .i64 n)) (hd : w.cell? ⟨g, 7, none⟩ = some (.int .i64 m)) : Calls Tryz.prog 87 #[.pointer (some ⟨g, 0, none⟩)] w (TellsB (decide (0 ≤ n) && decide (0 ≤ m)) w) := by
  by_cases h : 0 ≤ n
  · go_enter Tryz.func87, Tryz.ntmps87
    go_wp2_with fail
    go_ret
    exact ⟨ret_bool (by simp [h]), Below.refl _ _⟩
  · go_enter Tryz.func87, Tryz.ntmps87
    go_wp2_with fail
    go_ret
    exact ⟨ret_bool (by simp; omega), Below.refl _ _⟩
set_option maxHeartbeats 1000000 in
theorem q88 {g : Nat} {n m : Int} (w : World) (hc : w.cell? ⟨g, 6, none⟩ = some (.int .i64 n)) (hd : w.cell? ⟨g, 7, none⟩ = some (.int .i64 m)) : Calls Tryz.prog 88 #[.pointer (some ⟨g, 0, none⟩)] w (TellsB (decide (n = 0) && decide (m = 0)) w) := by
  by_cases h : n = 0
  · have h2 : (n == 0) = true := by simp [h]
    have H := Lib.hid h
    clear h
    go_enter Tryz.func88, Tryz.ntmps88
    go_wp2_with fail
    go_ret
    exact ⟨ret_bool (by rw [H.out]; exact Bool.eq_iff_iff.2 (by simp)), Below.refl _ _⟩
  · have h2 : (n == 0) = false := by simp [h]
    go_enter Tryz.func88, Tryz.ntmps88
    go_wp2_with fail
    go_ret
    exact ⟨ret_bool (by simp [h]), Below.refl _ _⟩

/-! ### hasItsOwn -/
def askAs (x : Stm) : Nat → Bool
  | 0 => nameB x.reg
  | 1 => nameB x.name
  | 2 => rightL x.e
  | 3 => rightL x.f
  | 4 => decide (1 ≤ x.n) && decide (x.n ≤ 8)
  | _ => decide (0 ≤ x.body) && decide (0 ≤ x.els)
def askNot (x : Stm) : Nat → Bool
  | 0 => x.reg.isEmpty
  | 1 => x.name.isEmpty
  | 2 => x.e.isEmpty
  | 3 => x.f.isEmpty
  | 4 => decide (x.n = 0)
  | _ => decide (x.body = 0) && decide (x.els = 0)
def letK : Nat → UInt8
  | 0 => 114
  | 1 => 110
  | 2 => 101
  | 3 => 102
  | 4 => 107
  | _ => 98
def askB (x : Stm) (k : Nat) : Bool := if hasC x.kind (letK k) then askAs x k else askNot x k
def ownR (x : Stm) : Bool := decide (0 < x.kind) && decide (x.kind < 15) && decide (0 ≤ x.pl) && decide (x.pl ≤ 4000)
def ownB (x : Stm) : Bool := ownR x && ((List.range 6).all (askB x) && (decide (x.els = 0) || decide (x.kind = 11)))
theorem has_blk {k : Int} (h1 : 0 < k) (h2 : k < 15) : hasC k 98 = decide (blkK k) := by
  obtain ⟨n, rfl⟩ : ∃ n : Nat, k = n := ⟨k.toNat, by omega⟩
  have : ∀ n : Fin 15, hasC (n.1 : Int) 98 = decide (blkK (n.1 : Int)) := by decide
  exact this ⟨n, by omega⟩
theorem ownB_eq (x : Stm) : ownB x = (fitS x && (if blkK x.kind then decide (0 ≤ x.body) && decide (0 ≤ x.els) else decide (x.body = 0) && decide (x.els = 0)) && (decide (x.els = 0) || decide (x.kind = 11))) := by
  unfold ownB ownR fitS
  by_cases h1 : 0 < x.kind
  · by_cases h2 : x.kind < 15
    · have hb := has_blk h1 h2
      have e1 : decide (1 ≤ x.kind) = true := decide_eq_true (by omega)
      have e2 : decide (x.kind ≤ 14) = true := decide_eq_true (by omega)
      have e3 : decide (0 < x.kind) = true := decide_eq_true h1
      have e4 : decide (x.kind < 15) = true := decide_eq_true h2
      have er : List.range 6 = [0, 1, 2, 3, 4, 5] := by decide
      rw [e1, e2, e3, e4, er]
      simp only [List.all_cons, List.all_nil, askB, letK, askAs, askNot, hb, decide_eq_true_eq, Bool.and_true, Bool.true_and, Bool.and_assoc]
    · have e2 : decide (x.kind ≤ 14) = false := decide_eq_false (by omega)
      have e4 : decide (x.kind < 15) = false := decide_eq_false h2
      rw [e2, e4]; simp
  · have e1 : decide (1 ≤ x.kind) = false := decide_eq_false (by omega)
    have e3 : decide (0 < x.kind) = false := decide_eq_false h1
    rw [e1, e3]; simp
theorem indexByte_nonneg (l : List UInt8) (c : UInt8) : decide (0 ≤ Lib.indexByte l c) = l.any (fun x => x == c) := by
  induction l with
  | nil => rfl
  | cons b l ih =>
    have hg := Lib.indexByte_ge l c
    rw [List.any_cons, ← ih]
    show decide (0 ≤ (if b == c then (0 : Int) else if Lib.indexByte l c == -1 then -1 else Lib.indexByte l c + 1)) = _
    by_cases h : b == c
    · rw [if_pos h, h]; rfl
    · rw [if_neg h, Bool.not_eq_true] at *
      rw [h]
      by_cases h2 : Lib.indexByte l c == -1
      · rw [if_pos h2]; have : Lib.indexByte l c = -1 := by simpa using h2
        rw [this]; rfl
      · rw [if_neg h2]; have : Lib.indexByte l c ≠ -1 := by simpa using h2
        simp only [Bool.false_or]
        exact Bool.eq_iff_iff.2 (by simp only [decide_eq_true_eq]; omega)
theorem contains_l {k : Nat} (hk : k < 15) (c : UInt8) (w : World) : Calls Tryz.prog 55 #[.string ⟨(ownedT k).toArray⟩, .string ⟨#[c]⟩] w (Tells (hasC k c) w) := by
  refine (Tryz.strings_Contains_one _ c w).mono ?_
  rintro e w' ⟨rfl, rfl⟩
  refine ⟨ret_bool ?_, rfl⟩
  rw [indexByte_nonneg]
  unfold hasC
  rw [hasL_owned hk]
/-- A statement in a box of its own. -/
structure BoxS (w : World) (g : Nat) (x : Stm) (vE vF : Value) : Prop where
  nine : Nine w g (.int .i64 x.kind) (.string ⟨x.reg.toArray⟩) (.string ⟨x.name.toArray⟩) vE vF (.int .i64 x.n) (.int .i64 x.body) (.int .i64 x.els) (.int .i64 x.pl)
  re : ReadN w vE x.e
  rf : ReadN w vF x.f
  small : SmallS x
theorem BoxS.on {w w' : World} {g : Nat} {x : Stm} {vE vF : Value} (h : BoxS w g x vE vF) (hb : Below w.heap.size w w') : BoxS w' g x vE vF := ⟨h.nine.on hb, h.re.on hb, h.rf.on hb, h.small⟩
/-- The closure that asks, by its number: whether the kind has it, or not. -/
def askF (k : Nat) (has : Bool) : Nat := ([74, 76, 77, 78, 79, 81, 82, 83, 84, 86, 87, 88] : List Nat).getD (2 * k + (if has then 0 else 1)) 0
theorem ask_says {w : World} {g : Nat} {x : Stm} {vE vF : Value} (h : BoxS w g x vE vF) (k : Nat) (hk : k < 6) (q : Bool) (hq : hasC x.kind (letK k) = q) : Calls Tryz.prog (askF k q) #[.pointer (some ⟨g, 0, none⟩)] w (TellsB (askB x k) w) := by
  obtain ⟨⟨_, c0, c1, c2, c3, c4, c5, c6, c7, c8⟩, re, rf, s1, s2, s3, s4, s5, s6⟩ := h
  have : k = 0 ∨ k = 1 ∨ k = 2 ∨ k = 3 ∨ k = 4 ∨ k = 5 := by omega
  unfold askB
  rw [hq]
  rcases this with rfl | rfl | rfl | rfl | rfl | rfl <;> cases q
  · exact q76 w c1
  · exact q74 w c1 s1
  · exact q78 w c2
  · exact q77 w c2 s2
  · exact q81 w c3 re
  · exact q79 w c3 re s3 s5
  · exact q83 w c4 rf
  · exact q82 w c4 rf s4 s6
  · exact q86 w c5
  · exact q84 w c5
  · exact q88 w c6 c7
  · exact q87 w c6 c7
theorem range_succ_all (f : Nat → Bool) (k : Nat) : (List.range (k + 1)).all f = ((List.range k).all f && f k) := by
  rw [List.range_succ, List.all_append]; simp
theorem all_stop {f : Nat → Bool} {k : Nat} (hk : k < 6) (h : f k = false) : (List.range 6).all f = false := by
  rw [List.all_eq_false]
  exact ⟨k, List.mem_range.2 hk, by rw [h]; simp⟩
theorem ask_ix0 (g : Nat) (w : World) : (Instr.index 106 (.agg #[.string ⟨#[114]⟩, .func (.func 74) #[] #[.pointer (some ⟨g, 0, none⟩)], .func (.func 76) #[] #[.pointer (some ⟨g, 0, none⟩)], .string ⟨#[110]⟩, .func (.func 77) #[] #[.pointer (some ⟨g, 0, none⟩)], .func (.func 78) #[] #[.pointer (some ⟨g, 0, none⟩)], .string ⟨#[101]⟩, .func (.func 79) #[] #[.pointer (some ⟨g, 0, none⟩)], .func (.func 81) #[] #[.pointer (some ⟨g, 0, none⟩)], .string ⟨#[102]⟩, .func (.func 82) #[] #[.pointer (some ⟨g, 0, none⟩)], .func (.func 83) #[] #[.pointer (some ⟨g, 0, none⟩)], .string ⟨#[107]⟩, .func (.func 84) #[] #[.pointer (some ⟨g, 0, none⟩)], .func (.func 86) #[] #[.pointer (some ⟨g, 0, none⟩)], .string ⟨#[98]⟩, .func (.func 87) #[] #[.pointer (some ⟨g, 0, none⟩)], .func (.func 88) #[] #[.pointer (some ⟨g, 0, none⟩)]]) (.int .i64 0)).run Tryz.prog w = .ok (.agg #[.string ⟨#[114]⟩, .func (.func 74) #[] #[.pointer (some ⟨g, 0, none⟩)], .func (.func 76) #[] #[.pointer (some ⟨g, 0, none⟩)]]) w := by kernel_rfl
theorem ask_ix1 (g : Nat) (w : World) : (Instr.index 106 (.agg #[.string ⟨#[114]⟩, .func (.func 74) #[] #[.pointer (some ⟨g, 0, none⟩)], .func (.func 76) #[] #[.pointer (some ⟨g, 0, none⟩)], .string ⟨#[110]⟩, .func (.func 77) #[] #[.pointer (some ⟨g, 0, none⟩)], .func (.func 78) #[] #[.pointer (some ⟨g, 0, none⟩)], .string ⟨#[101]⟩, .func (.func 79) #[] #[.pointer (some ⟨g, 0, none⟩)], .func (.func 81) #[] #[.pointer (some ⟨g, 0, none⟩)], .string ⟨#[102]⟩, .func (.func 82) #[] #[.pointer (some ⟨g, 0, none⟩)], .func (.func 83) #[] #[.pointer (some ⟨g, 0, none⟩)], .string ⟨#[107]⟩, .func (.func 84) #[] #[.pointer (some ⟨g, 0, none⟩)], .func (.func 86) #[] #[.pointer (some ⟨g, 0, none⟩)], .string ⟨#[98]⟩, .func (.func 87) #[] #[.pointer (some ⟨g, 0, none⟩)], .func (.func 88) #[] #[.pointer (some ⟨g, 0, none⟩)]]) (.int .i64 1)).run Tryz.prog w = .ok (.agg #[.string ⟨#[110]⟩, .func (.func 77) #[] #[.pointer (some ⟨g, 0, none⟩)], .func (.func 78) #[] #[.pointer (some ⟨g, 0, none⟩)]]) w := by kernel_rfl
theorem ask_ix2 (g : Nat) (w : World) : (Instr.index 106 (.agg #[.string ⟨#[114]⟩, .func (.func 74) #[] #[.pointer (some ⟨g, 0, none⟩)], .func (.func 76) #[] #[.pointer (some ⟨g, 0, none⟩)], .string ⟨#[110]⟩, .func (.func 77) #[] #[.pointer (some ⟨g, 0, none⟩)], .func (.func 78) #[] #[.pointer (some ⟨g, 0, none⟩)], .string ⟨#[101]⟩, .func (.func 79) #[] #[.pointer (some ⟨g, 0, none⟩)], .func (.func 81) #[] #[.pointer (some ⟨g, 0, none⟩)], .string ⟨#[102]⟩, .func (.func 82) #[] #[.pointer (some ⟨g, 0, none⟩)], .func (.func 83) #[] #[.pointer (some ⟨g, 0, none⟩)], .string ⟨#[107]⟩, .func (.func 84) #[] #[.pointer (some ⟨g, 0, none⟩)], .func (.func 86) #[] #[.pointer (some ⟨g, 0, none⟩)], .string ⟨#[98]⟩, .func (.func 87) #[] #[.pointer (some ⟨g, 0, none⟩)], .func (.func 88) #[] #[.pointer (some ⟨g, 0, none⟩)]]) (.int .i64 2)).run Tryz.prog w = .ok (.agg #[.string ⟨#[101]⟩, .func (.func 79) #[] #[.pointer (some ⟨g, 0, none⟩)], .func (.func 81) #[] #[.pointer (some ⟨g, 0, none⟩)]]) w := by kernel_rfl
theorem ask_ix3 (g : Nat) (w : World) : (Instr.index 106 (.agg #[.string ⟨#[114]⟩, .func (.func 74) #[] #[.pointer (some ⟨g, 0, none⟩)], .func (.func 76) #[] #[.pointer (some ⟨g, 0, none⟩)], .string ⟨#[110]⟩, .func (.func 77) #[] #[.pointer (some ⟨g, 0, none⟩)], .func (.func 78) #[] #[.pointer (some ⟨g, 0, none⟩)], .string ⟨#[101]⟩, .func (.func 79) #[] #[.pointer (some ⟨g, 0, none⟩)], .func (.func 81) #[] #[.pointer (some ⟨g, 0, none⟩)], .string ⟨#[102]⟩, .func (.func 82) #[] #[.pointer (some ⟨g, 0, none⟩)], .func (.func 83) #[] #[.pointer (some ⟨g, 0, none⟩)], .string ⟨#[107]⟩, .func (.func 84) #[] #[.pointer (some ⟨g, 0, none⟩)], .func (.func 86) #[] #[.pointer (some ⟨g, 0, none⟩)], .string ⟨#[98]⟩, .func (.func 87) #[] #[.pointer (some ⟨g, 0, none⟩)], .func (.func 88) #[] #[.pointer (some ⟨g, 0, none⟩)]]) (.int .i64 3)).run Tryz.prog w = .ok (.agg #[.string ⟨#[102]⟩, .func (.func 82) #[] #[.pointer (some ⟨g, 0, none⟩)], .func (.func 83) #[] #[.pointer (some ⟨g, 0, none⟩)]]) w := by kernel_rfl
theorem ask_ix4 (g : Nat) (w : World) : (Instr.index 106 (.agg #[.string ⟨#[114]⟩, .func (.func 74) #[] #[.pointer (some ⟨g, 0, none⟩)], .func (.func 76) #[] #[.pointer (some ⟨g, 0, none⟩)], .string ⟨#[110]⟩, .func (.func 77) #[] #[.pointer (some ⟨g, 0, none⟩)], .func (.func 78) #[] #[.pointer (some ⟨g, 0, none⟩)], .string ⟨#[101]⟩, .func (.func 79) #[] #[.pointer (some ⟨g, 0, none⟩)], .func (.func 81) #[] #[.pointer (some ⟨g, 0, none⟩)], .string ⟨#[102]⟩, .func (.func 82) #[] #[.pointer (some ⟨g, 0, none⟩)], .func (.func 83) #[] #[.pointer (some ⟨g, 0, none⟩)], .string ⟨#[107]⟩, .func (.func 84) #[] #[.pointer (some ⟨g, 0, none⟩)], .func (.func 86) #[] #[.pointer (some ⟨g, 0, none⟩)], .string ⟨#[98]⟩, .func (.func 87) #[] #[.pointer (some ⟨g, 0, none⟩)], .func (.func 88) #[] #[.pointer (some ⟨g, 0, none⟩)]]) (.int .i64 4)).run Tryz.prog w = .ok (.agg #[.string ⟨#[107]⟩, .func (.func 84) #[] #[.pointer (some ⟨g, 0, none⟩)], .func (.func 86) #[] #[.pointer (some ⟨g, 0, none⟩)]]) w := by kernel_rfl
theorem ask_ix5 (g : Nat) (w : World) : (Instr.index 106 (.agg #[.string ⟨#[114]⟩, .func (.func 74) #[] #[.pointer (some ⟨g, 0, none⟩)], .func (.func 76) #[] #[.pointer (some ⟨g, 0, none⟩)], .string ⟨#[110]⟩, .func (.func 77) #[] #[.pointer (some ⟨g, 0, none⟩)], .func (.func 78) #[] #[.pointer (some ⟨g, 0, none⟩)], .string ⟨#[101]⟩, .func (.func 79) #[] #[.pointer (some ⟨g, 0, none⟩)], .func (.func 81) #[] #[.pointer (some ⟨g, 0, none⟩)], .string ⟨#[102]⟩, .func (.func 82) #[] #[.pointer (some ⟨g, 0, none⟩)], .func (.func 83) #[] #[.pointer (some ⟨g, 0, none⟩)], .string ⟨#[107]⟩, .func (.func 84) #[] #[.pointer (some ⟨g, 0, none⟩)], .func (.func 86) #[] #[.pointer (some ⟨g, 0, none⟩)], .string ⟨#[98]⟩, .func (.func 87) #[] #[.pointer (some ⟨g, 0, none⟩)], .func (.func 88) #[] #[.pointer (some ⟨g, 0, none⟩)]]) (.int .i64 5)).run Tryz.prog w = .ok (.agg #[.string ⟨#[98]⟩, .func (.func 87) #[] #[.pointer (some ⟨g, 0, none⟩)], .func (.func 88) #[] #[.pointer (some ⟨g, 0, none⟩)]]) w := by kernel_rfl
set_option maxRecDepth 100000 in
set_option maxHeartbeats 8000000 in
theorem own_any (x : Stm) (vE vF : Value) (w : World) (hE : ReadN w vE x.e) (hF : ReadN w vF x.f) (hs : SmallS x) (ht : Tabs w) : Calls Tryz.prog 53 #[stmV x vE vF] w (TellsB (ownB x) w) := by
  obtain ⟨AE, cE, rfl, _⟩ := id hE
  obtain ⟨AF, cF, rfl, _⟩ := id hF
  unfold stmV
  have HB := Lib.hid ((Below.refl w.heap.size w).alloc (Nat.le_refl _) (.cells #[.int .i64 x.kind, .string ⟨x.reg.toArray⟩, .string ⟨x.name.toArray⟩, .slice AE x.e.length cE, .slice AF x.f.length cF, .int .i64 x.n, .int .i64 x.body, .int .i64 x.els, .int .i64 x.pl] 31))
  have HS : Hid (BoxS (w.alloc (.cells #[.int .i64 x.kind, .string ⟨x.reg.toArray⟩, .string ⟨x.name.toArray⟩, .slice AE x.e.length cE, .slice AF x.f.length cF, .int .i64 x.n, .int .i64 x.body, .int .i64 x.els, .int .i64 x.pl] 31)) w.heap.size x (.slice AE x.e.length cE) (.slice AF x.f.length cF)) := Lib.hid ⟨nine_new _ _ _ _ _ _ _ _ _ _ _, hE.on HB.out, hF.on HB.out, hs⟩
  have HT := Lib.hid (ht.on HB.out)
  clear hE hF hs ht
  obtain ⟨kd, reg, name, e, f, nn, body, els, pl⟩ := x
  simp only at *
  by_cases hk : ownR ⟨kd, reg, name, e, f, nn, body, els, pl⟩ = true
  · obtain ⟨n, rfl⟩ : ∃ n : Nat, kd = n := ⟨kd.toNat, by unfold ownR at hk; simp at hk; omega⟩
    have HO : Hid (ownB ⟨n, reg, name, e, f, nn, body, els, pl⟩ = ((List.range 6).all (askB ⟨n, reg, name, e, f, nn, body, els, pl⟩) && (decide (els = 0) || decide ((n : Int) = 11)))) := Lib.hid (by unfold ownB; rw [hk]; simp)
    unfold ownR at hk
    simp only [Bool.and_eq_true, decide_eq_true_eq] at hk
    obtain ⟨⟨⟨k1, k2⟩, k3⟩, k4⟩ := hk
    have n1 : ¬ (n : Int) ≤ 0 := by omega
    have n2 : ¬ 15 ≤ (n : Int) := by omega
    have n3 : ¬ pl < 0 := by omega
    have n4 : ¬ 4000 < pl := by omega
    have hmf := mkf
    generalize hV : ownB ⟨n, reg, name, e, f, nn, body, els, pl⟩ = V at *
    clear hV
    go_enter Tryz.func53, Tryz.ntmps53
    go_upto_region 3 with (fail)
    generalize w.alloc (.cells #[.int .i64 (n : Int), .string ⟨reg.toArray⟩, .string ⟨name.toArray⟩, .slice AE e.length cE, .slice AF f.length cF, .int .i64 nn, .int .i64 body, .int .i64 els, .int .i64 pl] 31) = X at *
    go_wp2_with fail
    go_loopw [43] (fun i wr => ∃ k : Nat, k ≤ 6 ∧ i = .int .i64 k ∧ (List.range k).all (askB ⟨n, reg, name, e, f, nn, body, els, pl⟩) = true ∧ Below X.heap.size X wr) (fun i _ => 6 - (intOf i).toNat)
    case atStart => exact ⟨0, by omega, rfl, rfl, Below.refl _ _⟩
    case round =>
      obtain ⟨k, hk, rfl, ha, hb⟩ := hrel
      have HA := Lib.hid ha
      have HBR := Lib.hid hb
      have HSR := Lib.hid (HS.out.on hb)
      have HTR := Lib.hid (HT.out.on hb)
      have htl := HTR.out.lt
      have hcl := HTR.out.own (k := n) (by omega)
      obtain ⟨hlt, c0, _, _, _, _, _, _, c7, _⟩ := HSR.out.nine
      clear ha hb
      by_cases hlt6 : k < 6
      · have HQ := Lib.hid (fun q hq => ask_says HSR.out k hlt6 q hq)
        have HR := Lib.hid (range_succ_all (askB ⟨n, reg, name, e, f, nn, body, els, pl⟩) k)
        have hk6 : k = 0 ∨ k = 1 ∨ k = 2 ∨ k = 3 ∨ k = 4 ∨ k = 5 := by omega
        rcases hk6 with rfl | rfl | rfl | rfl | rfl | rfl
        · have hix := ask_ix0 w.heap.size
          go_upto_region 7 with (fail)
          have HBA := Lib.hid ((Below.refl wr.heap.size wr).alloc (Nat.le_refl _) (.cells #[.string ⟨#[114]⟩, .func (.func 74) #[] #[.pointer (some ⟨w.heap.size, 0, none⟩)], .func (.func 76) #[] #[.pointer (some ⟨w.heap.size, 0, none⟩)]] 104))
          have d0 : (wr.alloc (.cells #[.string ⟨#[114]⟩, .func (.func 74) #[] #[.pointer (some ⟨w.heap.size, 0, none⟩)], .func (.func 76) #[] #[.pointer (some ⟨w.heap.size, 0, none⟩)]] 104)).cell? ⟨wr.heap.size, 0, none⟩ = some (.string ⟨#[114]⟩) := by simp
          have d1 : (wr.alloc (.cells #[.string ⟨#[114]⟩, .func (.func 74) #[] #[.pointer (some ⟨w.heap.size, 0, none⟩)], .func (.func 76) #[] #[.pointer (some ⟨w.heap.size, 0, none⟩)]] 104)).cell? ⟨wr.heap.size, 1, none⟩ = some (.func (.func 74) #[] #[.pointer (some ⟨w.heap.size, 0, none⟩)]) := by simp
          have e0 : (wr.alloc (.cells #[.string ⟨#[114]⟩, .func (.func 74) #[] #[.pointer (some ⟨w.heap.size, 0, none⟩)], .func (.func 76) #[] #[.pointer (some ⟨w.heap.size, 0, none⟩)]] 104)).cell? ⟨w.heap.size, 0, none⟩ = some (.int .i64 n) := (HBA.out.cell (p := ⟨w.heap.size, 0, none⟩) hlt).trans c0
          have e1 : (wr.alloc (.cells #[.string ⟨#[114]⟩, .func (.func 74) #[] #[.pointer (some ⟨w.heap.size, 0, none⟩)], .func (.func 76) #[] #[.pointer (some ⟨w.heap.size, 0, none⟩)]] 104)).cell? ⟨0, n, none⟩ = some (.string ⟨(ownedT n).toArray⟩) := (HBA.out.cell (p := ⟨0, n, none⟩) (by show 0 < _; omega)).trans hcl
          clear c0 hcl c7 hix
          generalize wr.alloc (.cells #[.string ⟨#[114]⟩, .func (.func 74) #[] #[.pointer (some ⟨w.heap.size, 0, none⟩)], .func (.func 76) #[] #[.pointer (some ⟨w.heap.size, 0, none⟩)]] 104) = Y at *
          have HQ2 := Lib.hid (HSR.out.on HBA.out)
          clear HQ
          cases hq : hasC n 114 with
          | true =>
            have HC := Lib.hid hq
            have HQ := Lib.hid (ask_says (HQ2.out.on (below_dr Y)) 0 hlt6 true hq)
            clear hq
            go_region_held3 (fun w' => w'.cell? ⟨w.heap.size, 0, none⟩ = some (.int .i64 n) ∧ w'.cell? ⟨0, n, none⟩ = some (.string ⟨(ownedT n).toArray⟩) ∧ w'.cell? ⟨wr.heap.size, 0, none⟩ = some (.string ⟨#[114]⟩) ∧ Below Y.heap.size Y w')
              (first | exact ⟨e0, e1, d0, Below.refl _ _⟩ | exact ⟨e0, e1, d0, below_dr _⟩)
              (first | (go_at_call 55; refine (contains_l (k := n) (by omega) 114 _).mono ?_; rw [HC.out]; rintro e w' ⟨rfl, rfl⟩))
            clear e0 e1 d0
            go_wp2_with fail
            refine HQ.out.mono ?_
            generalize hv : askB ⟨n, reg, name, e, f, nn, body, els, pl⟩ 0 = qv at *
            rintro e' w2 ⟨rfl, hb2⟩
            have HB2 := Lib.hid (below_then HBR.out (below_then HBA.out (below_then (below_dr Y) hb2)))
            clear hb2
            cases qv with
            | false =>
              have HN : Hid (V = false) := Lib.hid (by rw [HO.out, all_stop (k := 0) (by omega) hv]; rfl)
              clear hv
              go_wp2_with fail
              go_ret
              exact ⟨ret_bool HN.out.symm, below_then HB.out HB2.out⟩
            | true =>
              have HN : Hid ((List.range 1).all (askB ⟨n, reg, name, e, f, nn, body, els, pl⟩) = true) := Lib.hid (by rw [HR.out, HA.out]; rfl)
              clear hv
              go_wp2_with fail
              go_roundw
              case rel => exact ⟨1, by omega, by go_num, HN.out, HB2.out⟩
              case measure => simp [intOf]
          | false =>
            have HC := Lib.hid hq
            have HQ := Lib.hid (ask_says (HQ2.out.on (below_dr Y)) 0 hlt6 false hq)
            clear hq
            go_region_held3 (fun w' => w'.cell? ⟨w.heap.size, 0, none⟩ = some (.int .i64 n) ∧ w'.cell? ⟨0, n, none⟩ = some (.string ⟨(ownedT n).toArray⟩) ∧ w'.cell? ⟨wr.heap.size, 0, none⟩ = some (.string ⟨#[114]⟩) ∧ Below Y.heap.size Y w')
              (first | exact ⟨e0, e1, d0, Below.refl _ _⟩ | exact ⟨e0, e1, d0, below_dr _⟩)
              (first | (go_at_call 55; refine (contains_l (k := n) (by omega) 114 _).mono ?_; rw [HC.out]; rintro e w' ⟨rfl, rfl⟩))
            clear e0 e1 d0
            go_wp2_with fail
            refine HQ.out.mono ?_
            generalize hv : askB ⟨n, reg, name, e, f, nn, body, els, pl⟩ 0 = qv at *
            rintro e' w2 ⟨rfl, hb2⟩
            have HB2 := Lib.hid (below_then HBR.out (below_then HBA.out (below_then (below_dr Y) hb2)))
            clear hb2
            cases qv with
            | false =>
              have HN : Hid (V = false) := Lib.hid (by rw [HO.out, all_stop (k := 0) (by omega) hv]; rfl)
              clear hv
              go_wp2_with fail
              go_ret
              exact ⟨ret_bool HN.out.symm, below_then HB.out HB2.out⟩
            | true =>
              have HN : Hid ((List.range 1).all (askB ⟨n, reg, name, e, f, nn, body, els, pl⟩) = true) := Lib.hid (by rw [HR.out, HA.out]; rfl)
              clear hv
              go_wp2_with fail
              go_roundw
              case rel => exact ⟨1, by omega, by go_num, HN.out, HB2.out⟩
              case measure => simp [intOf]
        · have hix := ask_ix1 w.heap.size
          go_upto_region 7 with (fail)
          have HBA := Lib.hid ((Below.refl wr.heap.size wr).alloc (Nat.le_refl _) (.cells #[.string ⟨#[110]⟩, .func (.func 77) #[] #[.pointer (some ⟨w.heap.size, 0, none⟩)], .func (.func 78) #[] #[.pointer (some ⟨w.heap.size, 0, none⟩)]] 104))
          have d0 : (wr.alloc (.cells #[.string ⟨#[110]⟩, .func (.func 77) #[] #[.pointer (some ⟨w.heap.size, 0, none⟩)], .func (.func 78) #[] #[.pointer (some ⟨w.heap.size, 0, none⟩)]] 104)).cell? ⟨wr.heap.size, 0, none⟩ = some (.string ⟨#[110]⟩) := by simp
          have d1 : (wr.alloc (.cells #[.string ⟨#[110]⟩, .func (.func 77) #[] #[.pointer (some ⟨w.heap.size, 0, none⟩)], .func (.func 78) #[] #[.pointer (some ⟨w.heap.size, 0, none⟩)]] 104)).cell? ⟨wr.heap.size, 1, none⟩ = some (.func (.func 77) #[] #[.pointer (some ⟨w.heap.size, 0, none⟩)]) := by simp
          have e0 : (wr.alloc (.cells #[.string ⟨#[110]⟩, .func (.func 77) #[] #[.pointer (some ⟨w.heap.size, 0, none⟩)], .func (.func 78) #[] #[.pointer (some ⟨w.heap.size, 0, none⟩)]] 104)).cell? ⟨w.heap.size, 0, none⟩ = some (.int .i64 n) := (HBA.out.cell (p := ⟨w.heap.size, 0, none⟩) hlt).trans c0
          have e1 : (wr.alloc (.cells #[.string ⟨#[110]⟩, .func (.func 77) #[] #[.pointer (some ⟨w.heap.size, 0, none⟩)], .func (.func 78) #[] #[.pointer (some ⟨w.heap.size, 0, none⟩)]] 104)).cell? ⟨0, n, none⟩ = some (.string ⟨(ownedT n).toArray⟩) := (HBA.out.cell (p := ⟨0, n, none⟩) (by show 0 < _; omega)).trans hcl
          clear c0 hcl c7 hix
          generalize wr.alloc (.cells #[.string ⟨#[110]⟩, .func (.func 77) #[] #[.pointer (some ⟨w.heap.size, 0, none⟩)], .func (.func 78) #[] #[.pointer (some ⟨w.heap.size, 0, none⟩)]] 104) = Y at *
          have HQ2 := Lib.hid (HSR.out.on HBA.out)
          clear HQ
          cases hq : hasC n 110 with
          | true =>
            have HC := Lib.hid hq
            have HQ := Lib.hid (ask_says (HQ2.out.on (below_dr Y)) 1 hlt6 true hq)
            clear hq
            go_region_held3 (fun w' => w'.cell? ⟨w.heap.size, 0, none⟩ = some (.int .i64 n) ∧ w'.cell? ⟨0, n, none⟩ = some (.string ⟨(ownedT n).toArray⟩) ∧ w'.cell? ⟨wr.heap.size, 0, none⟩ = some (.string ⟨#[110]⟩) ∧ Below Y.heap.size Y w')
              (first | exact ⟨e0, e1, d0, Below.refl _ _⟩ | exact ⟨e0, e1, d0, below_dr _⟩)
              (first | (go_at_call 55; refine (contains_l (k := n) (by omega) 110 _).mono ?_; rw [HC.out]; rintro e w' ⟨rfl, rfl⟩))
            clear e0 e1 d0
            go_wp2_with fail
            refine HQ.out.mono ?_
            generalize hv : askB ⟨n, reg, name, e, f, nn, body, els, pl⟩ 1 = qv at *
            rintro e' w2 ⟨rfl, hb2⟩
            have HB2 := Lib.hid (below_then HBR.out (below_then HBA.out (below_then (below_dr Y) hb2)))
            clear hb2
            cases qv with
            | false =>
              have HN : Hid (V = false) := Lib.hid (by rw [HO.out, all_stop (k := 1) (by omega) hv]; rfl)
              clear hv
              go_wp2_with fail
              go_ret
              exact ⟨ret_bool HN.out.symm, below_then HB.out HB2.out⟩
            | true =>
              have HN : Hid ((List.range 2).all (askB ⟨n, reg, name, e, f, nn, body, els, pl⟩) = true) := Lib.hid (by rw [HR.out, HA.out]; rfl)
              clear hv
              go_wp2_with fail
              go_roundw
              case rel => exact ⟨2, by omega, by go_num, HN.out, HB2.out⟩
              case measure => simp [intOf]
          | false =>
            have HC := Lib.hid hq
            have HQ := Lib.hid (ask_says (HQ2.out.on (below_dr Y)) 1 hlt6 false hq)
            clear hq
            go_region_held3 (fun w' => w'.cell? ⟨w.heap.size, 0, none⟩ = some (.int .i64 n) ∧ w'.cell? ⟨0, n, none⟩ = some (.string ⟨(ownedT n).toArray⟩) ∧ w'.cell? ⟨wr.heap.size, 0, none⟩ = some (.string ⟨#[110]⟩) ∧ Below Y.heap.size Y w')
              (first | exact ⟨e0, e1, d0, Below.refl _ _⟩ | exact ⟨e0, e1, d0, below_dr _⟩)
              (first | (go_at_call 55; refine (contains_l (k := n) (by omega) 110 _).mono ?_; rw [HC.out]; rintro e w' ⟨rfl, rfl⟩))
            clear e0 e1 d0
            go_wp2_with fail
            refine HQ.out.mono ?_
            generalize hv : askB ⟨n, reg, name, e, f, nn, body, els, pl⟩ 1 = qv at *
            rintro e' w2 ⟨rfl, hb2⟩
            have HB2 := Lib.hid (below_then HBR.out (below_then HBA.out (below_then (below_dr Y) hb2)))
            clear hb2
            cases qv with
            | false =>
              have HN : Hid (V = false) := Lib.hid (by rw [HO.out, all_stop (k := 1) (by omega) hv]; rfl)
              clear hv
              go_wp2_with fail
              go_ret
              exact ⟨ret_bool HN.out.symm, below_then HB.out HB2.out⟩
            | true =>
              have HN : Hid ((List.range 2).all (askB ⟨n, reg, name, e, f, nn, body, els, pl⟩) = true) := Lib.hid (by rw [HR.out, HA.out]; rfl)
              clear hv
              go_wp2_with fail
              go_roundw
              case rel => exact ⟨2, by omega, by go_num, HN.out, HB2.out⟩
              case measure => simp [intOf]
        · have hix := ask_ix2 w.heap.size
          go_upto_region 7 with (fail)
          have HBA := Lib.hid ((Below.refl wr.heap.size wr).alloc (Nat.le_refl _) (.cells #[.string ⟨#[101]⟩, .func (.func 79) #[] #[.pointer (some ⟨w.heap.size, 0, none⟩)], .func (.func 81) #[] #[.pointer (some ⟨w.heap.size, 0, none⟩)]] 104))
          have d0 : (wr.alloc (.cells #[.string ⟨#[101]⟩, .func (.func 79) #[] #[.pointer (some ⟨w.heap.size, 0, none⟩)], .func (.func 81) #[] #[.pointer (some ⟨w.heap.size, 0, none⟩)]] 104)).cell? ⟨wr.heap.size, 0, none⟩ = some (.string ⟨#[101]⟩) := by simp
          have d1 : (wr.alloc (.cells #[.string ⟨#[101]⟩, .func (.func 79) #[] #[.pointer (some ⟨w.heap.size, 0, none⟩)], .func (.func 81) #[] #[.pointer (some ⟨w.heap.size, 0, none⟩)]] 104)).cell? ⟨wr.heap.size, 1, none⟩ = some (.func (.func 79) #[] #[.pointer (some ⟨w.heap.size, 0, none⟩)]) := by simp
          have e0 : (wr.alloc (.cells #[.string ⟨#[101]⟩, .func (.func 79) #[] #[.pointer (some ⟨w.heap.size, 0, none⟩)], .func (.func 81) #[] #[.pointer (some ⟨w.heap.size, 0, none⟩)]] 104)).cell? ⟨w.heap.size, 0, none⟩ = some (.int .i64 n) := (HBA.out.cell (p := ⟨w.heap.size, 0, none⟩) hlt).trans c0
          have e1 : (wr.alloc (.cells #[.string ⟨#[101]⟩, .func (.func 79) #[] #[.pointer (some ⟨w.heap.size, 0, none⟩)], .func (.func 81) #[] #[.pointer (some ⟨w.heap.size, 0, none⟩)]] 104)).cell? ⟨0, n, none⟩ = some (.string ⟨(ownedT n).toArray⟩) := (HBA.out.cell (p := ⟨0, n, none⟩) (by show 0 < _; omega)).trans hcl
          clear c0 hcl c7 hix
          generalize wr.alloc (.cells #[.string ⟨#[101]⟩, .func (.func 79) #[] #[.pointer (some ⟨w.heap.size, 0, none⟩)], .func (.func 81) #[] #[.pointer (some ⟨w.heap.size, 0, none⟩)]] 104) = Y at *
          have HQ2 := Lib.hid (HSR.out.on HBA.out)
          clear HQ
          cases hq : hasC n 101 with
          | true =>
            have HC := Lib.hid hq
            have HQ := Lib.hid (ask_says (HQ2.out.on (below_dr Y)) 2 hlt6 true hq)
            clear hq
            go_region_held3 (fun w' => w'.cell? ⟨w.heap.size, 0, none⟩ = some (.int .i64 n) ∧ w'.cell? ⟨0, n, none⟩ = some (.string ⟨(ownedT n).toArray⟩) ∧ w'.cell? ⟨wr.heap.size, 0, none⟩ = some (.string ⟨#[101]⟩) ∧ Below Y.heap.size Y w')
              (first | exact ⟨e0, e1, d0, Below.refl _ _⟩ | exact ⟨e0, e1, d0, below_dr _⟩)
              (first | (go_at_call 55; refine (contains_l (k := n) (by omega) 101 _).mono ?_; rw [HC.out]; rintro e w' ⟨rfl, rfl⟩))
            clear e0 e1 d0
            go_wp2_with fail
            refine HQ.out.mono ?_
            generalize hv : askB ⟨n, reg, name, e, f, nn, body, els, pl⟩ 2 = qv at *
            rintro e' w2 ⟨rfl, hb2⟩
            have HB2 := Lib.hid (below_then HBR.out (below_then HBA.out (below_then (below_dr Y) hb2)))
            clear hb2
            cases qv with
            | false =>
              have HN : Hid (V = false) := Lib.hid (by rw [HO.out, all_stop (k := 2) (by omega) hv]; rfl)
              clear hv
              go_wp2_with fail
              go_ret
              exact ⟨ret_bool HN.out.symm, below_then HB.out HB2.out⟩
            | true =>
              have HN : Hid ((List.range 3).all (askB ⟨n, reg, name, e, f, nn, body, els, pl⟩) = true) := Lib.hid (by rw [HR.out, HA.out]; rfl)
              clear hv
              go_wp2_with fail
              go_roundw
              case rel => exact ⟨3, by omega, by go_num, HN.out, HB2.out⟩
              case measure => simp [intOf]
          | false =>
            have HC := Lib.hid hq
            have HQ := Lib.hid (ask_says (HQ2.out.on (below_dr Y)) 2 hlt6 false hq)
            clear hq
            go_region_held3 (fun w' => w'.cell? ⟨w.heap.size, 0, none⟩ = some (.int .i64 n) ∧ w'.cell? ⟨0, n, none⟩ = some (.string ⟨(ownedT n).toArray⟩) ∧ w'.cell? ⟨wr.heap.size, 0, none⟩ = some (.string ⟨#[101]⟩) ∧ Below Y.heap.size Y w')
              (first | exact ⟨e0, e1, d0, Below.refl _ _⟩ | exact ⟨e0, e1, d0, below_dr _⟩)
              (first | (go_at_call 55; refine (contains_l (k := n) (by omega) 101 _).mono ?_; rw [HC.out]; rintro e w' ⟨rfl, rfl⟩))
            clear e0 e1 d0
            go_wp2_with fail
            refine HQ.out.mono ?_
            generalize hv : askB ⟨n, reg, name, e, f, nn, body, els, pl⟩ 2 = qv at *
            rintro e' w2 ⟨rfl, hb2⟩
            have HB2 := Lib.hid (below_then HBR.out (below_then HBA.out (below_then (below_dr Y) hb2)))
            clear hb2
            cases qv with
            | false =>
              have HN : Hid (V = false) := Lib.hid (by rw [HO.out, all_stop (k := 2) (by omega) hv]; rfl)
              clear hv
              go_wp2_with fail
              go_ret
              exact ⟨ret_bool HN.out.symm, below_then HB.out HB2.out⟩
            | true =>
              have HN : Hid ((List.range 3).all (askB ⟨n, reg, name, e, f, nn, body, els, pl⟩) = true) := Lib.hid (by rw [HR.out, HA.out]; rfl)
              clear hv
              go_wp2_with fail
              go_roundw
              case rel => exact ⟨3, by omega, by go_num, HN.out, HB2.out⟩
              case measure => simp [intOf]
        · have hix := ask_ix3 w.heap.size
          go_upto_region 7 with (fail)
          have HBA := Lib.hid ((Below.refl wr.heap.size wr).alloc (Nat.le_refl _) (.cells #[.string ⟨#[102]⟩, .func (.func 82) #[] #[.pointer (some ⟨w.heap.size, 0, none⟩)], .func (.func 83) #[] #[.pointer (some ⟨w.heap.size, 0, none⟩)]] 104))
          have d0 : (wr.alloc (.cells #[.string ⟨#[102]⟩, .func (.func 82) #[] #[.pointer (some ⟨w.heap.size, 0, none⟩)], .func (.func 83) #[] #[.pointer (some ⟨w.heap.size, 0, none⟩)]] 104)).cell? ⟨wr.heap.size, 0, none⟩ = some (.string ⟨#[102]⟩) := by simp
          have d1 : (wr.alloc (.cells #[.string ⟨#[102]⟩, .func (.func 82) #[] #[.pointer (some ⟨w.heap.size, 0, none⟩)], .func (.func 83) #[] #[.pointer (some ⟨w.heap.size, 0, none⟩)]] 104)).cell? ⟨wr.heap.size, 1, none⟩ = some (.func (.func 82) #[] #[.pointer (some ⟨w.heap.size, 0, none⟩)]) := by simp
          have e0 : (wr.alloc (.cells #[.string ⟨#[102]⟩, .func (.func 82) #[] #[.pointer (some ⟨w.heap.size, 0, none⟩)], .func (.func 83) #[] #[.pointer (some ⟨w.heap.size, 0, none⟩)]] 104)).cell? ⟨w.heap.size, 0, none⟩ = some (.int .i64 n) := (HBA.out.cell (p := ⟨w.heap.size, 0, none⟩) hlt).trans c0
          have e1 : (wr.alloc (.cells #[.string ⟨#[102]⟩, .func (.func 82) #[] #[.pointer (some ⟨w.heap.size, 0, none⟩)], .func (.func 83) #[] #[.pointer (some ⟨w.heap.size, 0, none⟩)]] 104)).cell? ⟨0, n, none⟩ = some (.string ⟨(ownedT n).toArray⟩) := (HBA.out.cell (p := ⟨0, n, none⟩) (by show 0 < _; omega)).trans hcl
          clear c0 hcl c7 hix
          generalize wr.alloc (.cells #[.string ⟨#[102]⟩, .func (.func 82) #[] #[.pointer (some ⟨w.heap.size, 0, none⟩)], .func (.func 83) #[] #[.pointer (some ⟨w.heap.size, 0, none⟩)]] 104) = Y at *
          have HQ2 := Lib.hid (HSR.out.on HBA.out)
          clear HQ
          cases hq : hasC n 102 with
          | true =>
            have HC := Lib.hid hq
            have HQ := Lib.hid (ask_says (HQ2.out.on (below_dr Y)) 3 hlt6 true hq)
            clear hq
            go_region_held3 (fun w' => w'.cell? ⟨w.heap.size, 0, none⟩ = some (.int .i64 n) ∧ w'.cell? ⟨0, n, none⟩ = some (.string ⟨(ownedT n).toArray⟩) ∧ w'.cell? ⟨wr.heap.size, 0, none⟩ = some (.string ⟨#[102]⟩) ∧ Below Y.heap.size Y w')
              (first | exact ⟨e0, e1, d0, Below.refl _ _⟩ | exact ⟨e0, e1, d0, below_dr _⟩)
              (first | (go_at_call 55; refine (contains_l (k := n) (by omega) 102 _).mono ?_; rw [HC.out]; rintro e w' ⟨rfl, rfl⟩))
            clear e0 e1 d0
            go_wp2_with fail
            refine HQ.out.mono ?_
            generalize hv : askB ⟨n, reg, name, e, f, nn, body, els, pl⟩ 3 = qv at *
            rintro e' w2 ⟨rfl, hb2⟩
            have HB2 := Lib.hid (below_then HBR.out (below_then HBA.out (below_then (below_dr Y) hb2)))
            clear hb2
            cases qv with
            | false =>
              have HN : Hid (V = false) := Lib.hid (by rw [HO.out, all_stop (k := 3) (by omega) hv]; rfl)
              clear hv
              go_wp2_with fail
              go_ret
              exact ⟨ret_bool HN.out.symm, below_then HB.out HB2.out⟩
            | true =>
              have HN : Hid ((List.range 4).all (askB ⟨n, reg, name, e, f, nn, body, els, pl⟩) = true) := Lib.hid (by rw [HR.out, HA.out]; rfl)
              clear hv
              go_wp2_with fail
              go_roundw
              case rel => exact ⟨4, by omega, by go_num, HN.out, HB2.out⟩
              case measure => simp [intOf]
          | false =>
            have HC := Lib.hid hq
            have HQ := Lib.hid (ask_says (HQ2.out.on (below_dr Y)) 3 hlt6 false hq)
            clear hq
            go_region_held3 (fun w' => w'.cell? ⟨w.heap.size, 0, none⟩ = some (.int .i64 n) ∧ w'.cell? ⟨0, n, none⟩ = some (.string ⟨(ownedT n).toArray⟩) ∧ w'.cell? ⟨wr.heap.size, 0, none⟩ = some (.string ⟨#[102]⟩) ∧ Below Y.heap.size Y w')
              (first | exact ⟨e0, e1, d0, Below.refl _ _⟩ | exact ⟨e0, e1, d0, below_dr _⟩)
              (first | (go_at_call 55; refine (contains_l (k := n) (by omega) 102 _).mono ?_; rw [HC.out]; rintro e w' ⟨rfl, rfl⟩))
            clear e0 e1 d0
            go_wp2_with fail
            refine HQ.out.mono ?_
            generalize hv : askB ⟨n, reg, name, e, f, nn, body, els, pl⟩ 3 = qv at *
            rintro e' w2 ⟨rfl, hb2⟩
            have HB2 := Lib.hid (below_then HBR.out (below_then HBA.out (below_then (below_dr Y) hb2)))
            clear hb2
            cases qv with
            | false =>
              have HN : Hid (V = false) := Lib.hid (by rw [HO.out, all_stop (k := 3) (by omega) hv]; rfl)
              clear hv
              go_wp2_with fail
              go_ret
              exact ⟨ret_bool HN.out.symm, below_then HB.out HB2.out⟩
            | true =>
              have HN : Hid ((List.range 4).all (askB ⟨n, reg, name, e, f, nn, body, els, pl⟩) = true) := Lib.hid (by rw [HR.out, HA.out]; rfl)
              clear hv
              go_wp2_with fail
              go_roundw
              case rel => exact ⟨4, by omega, by go_num, HN.out, HB2.out⟩
              case measure => simp [intOf]
        · have hix := ask_ix4 w.heap.size
          go_upto_region 7 with (fail)
          have HBA := Lib.hid ((Below.refl wr.heap.size wr).alloc (Nat.le_refl _) (.cells #[.string ⟨#[107]⟩, .func (.func 84) #[] #[.pointer (some ⟨w.heap.size, 0, none⟩)], .func (.func 86) #[] #[.pointer (some ⟨w.heap.size, 0, none⟩)]] 104))
          have d0 : (wr.alloc (.cells #[.string ⟨#[107]⟩, .func (.func 84) #[] #[.pointer (some ⟨w.heap.size, 0, none⟩)], .func (.func 86) #[] #[.pointer (some ⟨w.heap.size, 0, none⟩)]] 104)).cell? ⟨wr.heap.size, 0, none⟩ = some (.string ⟨#[107]⟩) := by simp
          have d1 : (wr.alloc (.cells #[.string ⟨#[107]⟩, .func (.func 84) #[] #[.pointer (some ⟨w.heap.size, 0, none⟩)], .func (.func 86) #[] #[.pointer (some ⟨w.heap.size, 0, none⟩)]] 104)).cell? ⟨wr.heap.size, 1, none⟩ = some (.func (.func 84) #[] #[.pointer (some ⟨w.heap.size, 0, none⟩)]) := by simp
          have e0 : (wr.alloc (.cells #[.string ⟨#[107]⟩, .func (.func 84) #[] #[.pointer (some ⟨w.heap.size, 0, none⟩)], .func (.func 86) #[] #[.pointer (some ⟨w.heap.size, 0, none⟩)]] 104)).cell? ⟨w.heap.size, 0, none⟩ = some (.int .i64 n) := (HBA.out.cell (p := ⟨w.heap.size, 0, none⟩) hlt).trans c0
          have e1 : (wr.alloc (.cells #[.string ⟨#[107]⟩, .func (.func 84) #[] #[.pointer (some ⟨w.heap.size, 0, none⟩)], .func (.func 86) #[] #[.pointer (some ⟨w.heap.size, 0, none⟩)]] 104)).cell? ⟨0, n, none⟩ = some (.string ⟨(ownedT n).toArray⟩) := (HBA.out.cell (p := ⟨0, n, none⟩) (by show 0 < _; omega)).trans hcl
          clear c0 hcl c7 hix
          generalize wr.alloc (.cells #[.string ⟨#[107]⟩, .func (.func 84) #[] #[.pointer (some ⟨w.heap.size, 0, none⟩)], .func (.func 86) #[] #[.pointer (some ⟨w.heap.size, 0, none⟩)]] 104) = Y at *
          have HQ2 := Lib.hid (HSR.out.on HBA.out)
          clear HQ
          cases hq : hasC n 107 with
          | true =>
            have HC := Lib.hid hq
            have HQ := Lib.hid (ask_says (HQ2.out.on (below_dr Y)) 4 hlt6 true hq)
            clear hq
            go_region_held3 (fun w' => w'.cell? ⟨w.heap.size, 0, none⟩ = some (.int .i64 n) ∧ w'.cell? ⟨0, n, none⟩ = some (.string ⟨(ownedT n).toArray⟩) ∧ w'.cell? ⟨wr.heap.size, 0, none⟩ = some (.string ⟨#[107]⟩) ∧ Below Y.heap.size Y w')
              (first | exact ⟨e0, e1, d0, Below.refl _ _⟩ | exact ⟨e0, e1, d0, below_dr _⟩)
              (first | (go_at_call 55; refine (contains_l (k := n) (by omega) 107 _).mono ?_; rw [HC.out]; rintro e w' ⟨rfl, rfl⟩))
            clear e0 e1 d0
            go_wp2_with fail
            refine HQ.out.mono ?_
            generalize hv : askB ⟨n, reg, name, e, f, nn, body, els, pl⟩ 4 = qv at *
            rintro e' w2 ⟨rfl, hb2⟩
            have HB2 := Lib.hid (below_then HBR.out (below_then HBA.out (below_then (below_dr Y) hb2)))
            clear hb2
            cases qv with
            | false =>
              have HN : Hid (V = false) := Lib.hid (by rw [HO.out, all_stop (k := 4) (by omega) hv]; rfl)
              clear hv
              go_wp2_with fail
              go_ret
              exact ⟨ret_bool HN.out.symm, below_then HB.out HB2.out⟩
            | true =>
              have HN : Hid ((List.range 5).all (askB ⟨n, reg, name, e, f, nn, body, els, pl⟩) = true) := Lib.hid (by rw [HR.out, HA.out]; rfl)
              clear hv
              go_wp2_with fail
              go_roundw
              case rel => exact ⟨5, by omega, by go_num, HN.out, HB2.out⟩
              case measure => simp [intOf]
          | false =>
            have HC := Lib.hid hq
            have HQ := Lib.hid (ask_says (HQ2.out.on (below_dr Y)) 4 hlt6 false hq)
            clear hq
            go_region_held3 (fun w' => w'.cell? ⟨w.heap.size, 0, none⟩ = some (.int .i64 n) ∧ w'.cell? ⟨0, n, none⟩ = some (.string ⟨(ownedT n).toArray⟩) ∧ w'.cell? ⟨wr.heap.size, 0, none⟩ = some (.string ⟨#[107]⟩) ∧ Below Y.heap.size Y w')
              (first | exact ⟨e0, e1, d0, Below.refl _ _⟩ | exact ⟨e0, e1, d0, below_dr _⟩)
              (first | (go_at_call 55; refine (contains_l (k := n) (by omega) 107 _).mono ?_; rw [HC.out]; rintro e w' ⟨rfl, rfl⟩))
            clear e0 e1 d0
            go_wp2_with fail
            refine HQ.out.mono ?_
            generalize hv : askB ⟨n, reg, name, e, f, nn, body, els, pl⟩ 4 = qv at *
            rintro e' w2 ⟨rfl, hb2⟩
            have HB2 := Lib.hid (below_then HBR.out (below_then HBA.out (below_then (below_dr Y) hb2)))
            clear hb2
            cases qv with
            | false =>
              have HN : Hid (V = false) := Lib.hid (by rw [HO.out, all_stop (k := 4) (by omega) hv]; rfl)
              clear hv
              go_wp2_with fail
              go_ret
              exact ⟨ret_bool HN.out.symm, below_then HB.out HB2.out⟩
            | true =>
              have HN : Hid ((List.range 5).all (askB ⟨n, reg, name, e, f, nn, body, els, pl⟩) = true) := Lib.hid (by rw [HR.out, HA.out]; rfl)
              clear hv
              go_wp2_with fail
              go_roundw
              case rel => exact ⟨5, by omega, by go_num, HN.out, HB2.out⟩
              case measure => simp [intOf]
        · have hix := ask_ix5 w.heap.size
          go_upto_region 7 with (fail)
          have HBA := Lib.hid ((Below.refl wr.heap.size wr).alloc (Nat.le_refl _) (.cells #[.string ⟨#[98]⟩, .func (.func 87) #[] #[.pointer (some ⟨w.heap.size, 0, none⟩)], .func (.func 88) #[] #[.pointer (some ⟨w.heap.size, 0, none⟩)]] 104))
          have d0 : (wr.alloc (.cells #[.string ⟨#[98]⟩, .func (.func 87) #[] #[.pointer (some ⟨w.heap.size, 0, none⟩)], .func (.func 88) #[] #[.pointer (some ⟨w.heap.size, 0, none⟩)]] 104)).cell? ⟨wr.heap.size, 0, none⟩ = some (.string ⟨#[98]⟩) := by simp
          have d1 : (wr.alloc (.cells #[.string ⟨#[98]⟩, .func (.func 87) #[] #[.pointer (some ⟨w.heap.size, 0, none⟩)], .func (.func 88) #[] #[.pointer (some ⟨w.heap.size, 0, none⟩)]] 104)).cell? ⟨wr.heap.size, 1, none⟩ = some (.func (.func 87) #[] #[.pointer (some ⟨w.heap.size, 0, none⟩)]) := by simp
          have e0 : (wr.alloc (.cells #[.string ⟨#[98]⟩, .func (.func 87) #[] #[.pointer (some ⟨w.heap.size, 0, none⟩)], .func (.func 88) #[] #[.pointer (some ⟨w.heap.size, 0, none⟩)]] 104)).cell? ⟨w.heap.size, 0, none⟩ = some (.int .i64 n) := (HBA.out.cell (p := ⟨w.heap.size, 0, none⟩) hlt).trans c0
          have e1 : (wr.alloc (.cells #[.string ⟨#[98]⟩, .func (.func 87) #[] #[.pointer (some ⟨w.heap.size, 0, none⟩)], .func (.func 88) #[] #[.pointer (some ⟨w.heap.size, 0, none⟩)]] 104)).cell? ⟨0, n, none⟩ = some (.string ⟨(ownedT n).toArray⟩) := (HBA.out.cell (p := ⟨0, n, none⟩) (by show 0 < _; omega)).trans hcl
          clear c0 hcl c7 hix
          generalize wr.alloc (.cells #[.string ⟨#[98]⟩, .func (.func 87) #[] #[.pointer (some ⟨w.heap.size, 0, none⟩)], .func (.func 88) #[] #[.pointer (some ⟨w.heap.size, 0, none⟩)]] 104) = Y at *
          have HQ2 := Lib.hid (HSR.out.on HBA.out)
          clear HQ
          cases hq : hasC n 98 with
          | true =>
            have HC := Lib.hid hq
            have HQ := Lib.hid (ask_says (HQ2.out.on (below_dr Y)) 5 hlt6 true hq)
            clear hq
            go_region_held3 (fun w' => w'.cell? ⟨w.heap.size, 0, none⟩ = some (.int .i64 n) ∧ w'.cell? ⟨0, n, none⟩ = some (.string ⟨(ownedT n).toArray⟩) ∧ w'.cell? ⟨wr.heap.size, 0, none⟩ = some (.string ⟨#[98]⟩) ∧ Below Y.heap.size Y w')
              (first | exact ⟨e0, e1, d0, Below.refl _ _⟩ | exact ⟨e0, e1, d0, below_dr _⟩)
              (first | (go_at_call 55; refine (contains_l (k := n) (by omega) 98 _).mono ?_; rw [HC.out]; rintro e w' ⟨rfl, rfl⟩))
            clear e0 e1 d0
            go_wp2_with fail
            refine HQ.out.mono ?_
            generalize hv : askB ⟨n, reg, name, e, f, nn, body, els, pl⟩ 5 = qv at *
            rintro e' w2 ⟨rfl, hb2⟩
            have HB2 := Lib.hid (below_then HBR.out (below_then HBA.out (below_then (below_dr Y) hb2)))
            clear hb2
            cases qv with
            | false =>
              have HN : Hid (V = false) := Lib.hid (by rw [HO.out, all_stop (k := 5) (by omega) hv]; rfl)
              clear hv
              go_wp2_with fail
              go_ret
              exact ⟨ret_bool HN.out.symm, below_then HB.out HB2.out⟩
            | true =>
              have HN : Hid ((List.range 6).all (askB ⟨n, reg, name, e, f, nn, body, els, pl⟩) = true) := Lib.hid (by rw [HR.out, HA.out]; rfl)
              clear hv
              go_wp2_with fail
              go_roundw
              case rel => exact ⟨6, by omega, by go_num, HN.out, HB2.out⟩
              case measure => simp [intOf]
          | false =>
            have HC := Lib.hid hq
            have HQ := Lib.hid (ask_says (HQ2.out.on (below_dr Y)) 5 hlt6 false hq)
            clear hq
            go_region_held3 (fun w' => w'.cell? ⟨w.heap.size, 0, none⟩ = some (.int .i64 n) ∧ w'.cell? ⟨0, n, none⟩ = some (.string ⟨(ownedT n).toArray⟩) ∧ w'.cell? ⟨wr.heap.size, 0, none⟩ = some (.string ⟨#[98]⟩) ∧ Below Y.heap.size Y w')
              (first | exact ⟨e0, e1, d0, Below.refl _ _⟩ | exact ⟨e0, e1, d0, below_dr _⟩)
              (first | (go_at_call 55; refine (contains_l (k := n) (by omega) 98 _).mono ?_; rw [HC.out]; rintro e w' ⟨rfl, rfl⟩))
            clear e0 e1 d0
            go_wp2_with fail
            refine HQ.out.mono ?_
            generalize hv : askB ⟨n, reg, name, e, f, nn, body, els, pl⟩ 5 = qv at *
            rintro e' w2 ⟨rfl, hb2⟩
            have HB2 := Lib.hid (below_then HBR.out (below_then HBA.out (below_then (below_dr Y) hb2)))
            clear hb2
            cases qv with
            | false =>
              have HN : Hid (V = false) := Lib.hid (by rw [HO.out, all_stop (k := 5) (by omega) hv]; rfl)
              clear hv
              go_wp2_with fail
              go_ret
              exact ⟨ret_bool HN.out.symm, below_then HB.out HB2.out⟩
            | true =>
              have HN : Hid ((List.range 6).all (askB ⟨n, reg, name, e, f, nn, body, els, pl⟩) = true) := Lib.hid (by rw [HR.out, HA.out]; rfl)
              clear hv
              go_wp2_with fail
              go_roundw
              case rel => exact ⟨6, by omega, by go_num, HN.out, HB2.out⟩
              case measure => simp [intOf]
      · obtain rfl : k = 6 := by omega
        have HV : Hid (V = (decide (els = 0) || decide ((n : Int) = 11))) := Lib.hid (by rw [HO.out, HA.out]; rfl)
        by_cases he : els = 0
        · have he2 : (els == 0) = true := by simp [he]
          have HN : Hid (V = true) := Lib.hid (by rw [HV.out, decide_eq_true he]; rfl)
          clear he
          go_wp2_with fail
          go_ret
          exact ⟨ret_bool HN.out.symm, below_then HB.out HBR.out⟩
        · have he2 : (els == 0) = false := by simp [he]
          have HN : Hid (V = ((n : Int) == 11)) := Lib.hid (by rw [HV.out, decide_eq_false he]; exact Bool.eq_iff_iff.2 (by simp))
          clear he
          go_wp2_with fail
          go_ret
          exact ⟨ret_bool HN.out.symm, below_then HB.out HBR.out⟩
  · have HN : Hid (ownB ⟨kd, reg, name, e, f, nn, body, els, pl⟩ = false) := Lib.hid (by
      unfold ownB; rw [Bool.not_eq_true] at hk; rw [hk]; rfl)
    rw [HN.out]
    unfold ownR at hk
    simp only [Bool.and_eq_true, decide_eq_true_eq] at hk
    clear HS HT HN
    by_cases k1 : kd ≤ 0
    · clear hk
      go_enter Tryz.func53, Tryz.ntmps53
      go_wp2_with fail
      go_ret
      exact ⟨rfl, HB.out⟩
    · by_cases k2 : 15 ≤ kd
      · clear hk
        go_enter Tryz.func53, Tryz.ntmps53
        go_wp2_with fail
        go_ret
        exact ⟨rfl, HB.out⟩
      · by_cases k3 : pl < 0
        · clear hk
          go_enter Tryz.func53, Tryz.ntmps53
          go_wp2_with fail
          go_ret
          exact ⟨rfl, HB.out⟩
        · have k4 : 4000 < pl := by omega
          clear hk
          go_enter Tryz.func53, Tryz.ntmps53
          go_wp2_with fail
          go_ret
          exact ⟨rfl, HB.out⟩
end Go.Proofs.YtpeohfgadnfnpaaGreatDoor
