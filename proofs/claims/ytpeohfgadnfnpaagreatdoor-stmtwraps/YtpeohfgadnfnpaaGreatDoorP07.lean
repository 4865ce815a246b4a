/-
  DERIVED. Texts of the walk, packed: Shelf, Tabs.
-/
import Derived.Shelf.Strconv.Itoa0
import Derived.Shelf.Strconv.Itoa1
import Derived.Shelf.LaysM
import Derived.Shelf.Strconv.Itoa2
import Derived.Shelf.Strconv.Itoa3
import Derived.Test.YtpeohfgadnfnpaaGreatDoorProg
import Derived.Test.YtpeohfgadnfnpaaGreatDoorP06
import Derived.Lib.AppendIntMem
import Derived.Lib.ItoaLen
import Derived.Lib.Space
/-
  DERIVED. Contracts of the guide laid at this program, in plain words.
-/
namespace Go.Proofs
open Go.Shelf
def Tryz.laysM171_ren : Go.Shelf.Ren := ⟨fun | 171 => 122 | 243 => 138 | 246 => 144 | 283 => 150 | 284 => 151 | 285 => 152 | 286 => 153 | 129 => 160 | 317 => 159 | 318 => 161 | 319 => 162 | 320 => 163 | 337 => 166 | 338 => 167 | n => n, fun | 3 => 3 | 9 => 9 | 2 => 2 | 4 => 4 | 171 => 179 | 0 => 0 | 53 => 180 | 37 => 85 | 5 => 5 | 173 => 183 | 212 => 191 | 51 => 134 | 20 => 20 | 213 => 192 | 46 => 146 | 232 => 195 | 233 => 196 | n => n, fun | 17 => 7 | 18 => 8 | 19 => 9 | n => n⟩
theorem Tryz.laysM171 : Go.Proofs.LaysM.n171 Tryz.prog Tryz.laysM171_ren := {
  mixed := by kernel_rfl
  f129 := Tryz.func160.trans (congrArg some (by kernel_rfl))
  f171 := Tryz.func122.trans (congrArg some (by kernel_rfl))
  f243 := Tryz.func138.trans (congrArg some (by kernel_rfl))
  f246 := Tryz.func144.trans (congrArg some (by kernel_rfl))
  f283 := Tryz.func150.trans (congrArg some (by kernel_rfl))
  f284 := Tryz.func151.trans (congrArg some (by kernel_rfl))
  f285 := Tryz.func152.trans (congrArg some (by kernel_rfl))
  f286 := Tryz.func153.trans (congrArg some (by kernel_rfl))
  f317 := Tryz.func159.trans (congrArg some (by kernel_rfl))
  f318 := Tryz.func161.trans (congrArg some (by kernel_rfl))
  f319 := Tryz.func162.trans (congrArg some (by kernel_rfl))
  f320 := Tryz.func163.trans (congrArg some (by kernel_rfl))
  f337 := Tryz.func166.trans (congrArg some (by kernel_rfl))
  f338 := Tryz.func167.trans (congrArg some (by kernel_rfl))
  t0 := Tryz.underlying0
  a0 := Tryz.isAgg0
  z0 := Tryz.sizeOf0
  v0 := Tryz.zeroValue0
  t2 := Tryz.underlying2
  a2 := Tryz.isAgg2
  z2 := Tryz.sizeOf2
  v2 := Tryz.zeroValue2
  t3 := Tryz.underlying3
  a3 := Tryz.isAgg3
  z3 := Tryz.sizeOf3
  v3 := Tryz.zeroValue3
  t4 := Tryz.underlying4
  a4 := Tryz.isAgg4
  z4 := Tryz.sizeOf4
  v4 := Tryz.zeroValue4
  t5 := Tryz.underlying5
  a5 := Tryz.isAgg5
  z5 := Tryz.sizeOf5
  v5 := Tryz.zeroValue5
  t9 := Tryz.underlying9
  a9 := Tryz.isAgg9
  z9 := Tryz.sizeOf9
  v9 := Tryz.zeroValue9
  t20 := Tryz.underlying20
  a20 := Tryz.isAgg20
  z20 := Tryz.sizeOf20
  v20 := Tryz.zeroValue20
  t37 := Tryz.underlying85
  a37 := Tryz.isAgg85
  z37 := Tryz.sizeOf85
  v37 := Tryz.zeroValue85
  t46 := Tryz.underlying146
  a46 := Tryz.isAgg146
  z46 := Tryz.sizeOf146
  v46 := Tryz.zeroValue146
  t51 := Tryz.underlying134
  a51 := Tryz.isAgg134
  z51 := Tryz.sizeOf134
  v51 := Tryz.zeroValue134
  t53 := Tryz.underlying180
  a53 := Tryz.isAgg180
  z53 := Tryz.sizeOf180
  v53 := Tryz.zeroValue180
  t171 := Tryz.underlying179
  a171 := Tryz.isAgg179
  z171 := Tryz.sizeOf179
  v171 := Tryz.zeroValue179
  t173 := Tryz.underlying183
  a173 := Tryz.isAgg183
  z173 := Tryz.sizeOf183
  v173 := Tryz.zeroValue183
  t212 := Tryz.underlying191
  a212 := Tryz.isAgg191
  z212 := Tryz.sizeOf191
  v212 := Tryz.zeroValue191
  t213 := Tryz.underlying192
  a213 := Tryz.isAgg192
  z213 := Tryz.sizeOf192
  t232 := Tryz.underlying195
  a232 := Tryz.isAgg195
  z232 := Tryz.sizeOf195
  v232 := Tryz.zeroValue195
  t233 := Tryz.underlying196
  a233 := Tryz.isAgg196
  z233 := Tryz.sizeOf196
  v233 := Tryz.zeroValue196
  g17 := by kernel_rfl
  g18 := by kernel_rfl
  g19 := by kernel_rfl
  i0 := by kernel_rfl
  i2 := by kernel_rfl
  i3 := by kernel_rfl
  i4 := by kernel_rfl
  i5 := by kernel_rfl
  i9 := by kernel_rfl
  i20 := by kernel_rfl
  i37 := by kernel_rfl
  i46 := by kernel_rfl
  i51 := by kernel_rfl
  i53 := by kernel_rfl
  i171 := by kernel_rfl
  i173 := by kernel_rfl
  i212 := by kernel_rfl
  i232 := by kernel_rfl
  i233 := by kernel_rfl
  m17 := by kernel_rfl
  m18 := by kernel_rfl
  m19 := by kernel_rfl }
open Go.RowKit Go.Sort Go.Lib in
theorem Tryz.strconv_Itoa (n : Int) (h0 : -9223372036854775808 ≤ n) (h1 : n ≤ 9223372036854775807) (w : World) (htab : Lib.TabIs Tryz.prog w "internal/strconv.uint64pow10" .u64 Lib.pow10Tab) :
    Calls Tryz.prog 122 #[.int .i64 n] w fun e w' => e = .returned (.string ⟨(Lib.itoa n).toArray⟩) ∧ ∃ k os, w' = grow (w.drewN k) os := Any.strconv_Itoa Tryz.laysM171 n h0 h1 w htab
end Go.Proofs
/-
  DERIVED. Layer 3: the tables that the rows list, as the walks take them; the contract of words.Text; what is shown of an expression.
-/
namespace Go.Proofs.YtpeohfgadnfnpaaGreatDoor
open Go.RowKit

def signVals : Array Value := (signsTab.map fun t => Value.string ⟨t.toArray⟩).toArray
def bindVals : Array Value := (bindsTab.map fun z => Value.int .i64 z).toArray
/-- What each kind has; how each kind is written: the two tables of stmt. -/
def ownedTab : List (List UInt8) := [[], [114, 101], [114, 110], [110, 101], [114, 110, 101, 102], [110], [110], [], [], [110], [110], [101, 98], [107, 98], [], [101]]
def formsTab : List (List UInt8) := [[], [114, 32, 61, 32, 101, 32, 59], [108, 111, 97, 100, 32, 114, 32, 61, 32, 110, 32, 59], [115, 116, 111, 114, 101, 32, 110, 32, 61, 32, 101, 32, 59], [99, 97, 115, 32, 114, 32, 61, 32, 110, 32, 44, 32, 101, 32, 44, 32, 102, 32, 59], [102, 108, 117, 115, 104, 32, 110, 32, 59], [111, 112, 116, 32, 110, 32, 59], [115, 102, 101, 110, 99, 101, 32, 59], [109, 102, 101, 110, 99, 101, 32, 59], [116, 97, 107, 101, 32, 110, 32, 59], [103, 105, 118, 101, 32, 110, 32, 59], [105, 102, 32, 101, 32, 98], [108, 111, 111, 112, 32, 107, 32, 98], [98, 114, 101, 97, 107, 32, 59], [99, 104, 101, 99, 107, 32, 101, 32, 59]]
def ownedT (k : Nat) : List UInt8 := ownedTab.getD k []
def formsT (k : Nat) : List UInt8 := formsTab.getD k []
def ownedVals : Array Value := (ownedTab.map fun t => Value.string ⟨t.toArray⟩).toArray
def formsVals : Array Value := (formsTab.map fun t => Value.string ⟨t.toArray⟩).toArray
theorem gSpace : Tryz.prog.globalNamed (Tryz.prog.globals[2]?.map (·.name)).get! = some 2 := by kernel_rfl
theorem gPow : Tryz.prog.globalNamed (Tryz.prog.globals[7]?.map (·.name)).get! = some 7 := by kernel_rfl
/-- The tables stand in the world. -/
structure Tabs (w : World) : Prop where
  owned : ∃ t fr, w.heap[0]? = some (.cells ownedVals t fr)
  forms : ∃ t fr, w.heap[1]? = some (.cells formsVals t fr)
  space : Lib.TabIs Tryz.prog w (Tryz.prog.globals[2]?.map (·.name)).get! .u8 Lib.asciiSpaceTab
  signs : ∃ t fr, w.heap[5]? = some (.cells signVals t fr)
  binds : ∃ t fr, w.heap[6]? = some (.cells bindVals t fr)
  pows : Lib.TabIs Tryz.prog w (Tryz.prog.globals[7]?.map (·.name)).get! .u64 Lib.pow10Tab
theorem Tabs.lt {w : World} (h : Tabs w) : 6 < w.heap.size := by
  obtain ⟨t, fr, h⟩ := h.binds
  exact (Array.getElem?_eq_some_iff.1 h).1
theorem Tabs.lt2 {w : World} (h : Tabs w) : 7 < w.heap.size := by
  have h3 := h.pows
  unfold Lib.TabIs World.var? at h3
  rw [gPow] at h3
  simp only [Option.bind_some] at h3
  rcases Nat.lt_or_ge 7 w.heap.size with h' | h'
  · exact h'
  · rw [Array.getElem?_eq_none h'] at h3; simp at h3
/-- The tables stand where their blocks do. -/
theorem Tabs.same {w w' : World} (h : Tabs w) (hb : ∀ k, k ≤ 7 → w'.heap[k]? = w.heap[k]?) : Tabs w' := by
  obtain ⟨⟨t0, f0, s0⟩, ⟨t1, f1, s1⟩, s2, ⟨t, fr, s5⟩, ⟨t2, fr2, s6⟩, s7⟩ := h
  refine ⟨⟨t0, f0, (hb 0 (by omega)).trans s0⟩, ⟨t1, f1, (hb 1 (by omega)).trans s1⟩, ?_, ⟨t, fr, (hb 5 (by omega)).trans s5⟩, ⟨t2, fr2, (hb 6 (by omega)).trans s6⟩, ?_⟩
  · unfold Lib.TabIs World.var? at *
    rw [gSpace] at *
    simp only [Option.bind_some] at *
    rw [hb 2 (by omega)]; exact s2
  · unfold Lib.TabIs World.var? at *
    rw [gPow] at *
    simp only [Option.bind_some] at *
    rw [hb 7 (by omega)]; exact s7
theorem Tabs.on {w w' : World} (h : Tabs w) (hb : Below w.heap.size w w') : Tabs w' := h.same fun k hk => hb.block k (by have := h.lt2; omega)
theorem Tabs.alloc {w : World} (h : Tabs w) (o : Obj) : Tabs (w.alloc o) := h.on ((Below.refl _ _).alloc (Nat.le_refl _) _)
theorem Tabs.sign {w : World} (h : Tabs w) {k : Nat} (hk : k < 16) : w.cell? ⟨5, k, none⟩ = some (.string ⟨(signT k).toArray⟩) := by
  obtain ⟨t, fr, h1⟩ := h.signs
  rw [cell_of_row w 5 k signVals t fr h1]
  have : k = 0 ∨ k = 1 ∨ k = 2 ∨ k = 3 ∨ k = 4 ∨ k = 5 ∨ k = 6 ∨ k = 7 ∨ k = 8 ∨ k = 9 ∨ k = 10 ∨ k = 11 ∨ k = 12 ∨ k = 13 ∨ k = 14 ∨ k = 15 := by omega
  rcases this with rfl | rfl | rfl | rfl | rfl | rfl | rfl | rfl | rfl | rfl | rfl | rfl | rfl | rfl | rfl | rfl <;> rfl
theorem Tabs.bind {w : World} (h : Tabs w) {k : Nat} (hk : k < 16) : w.cell? ⟨6, k, none⟩ = some (.int .i64 (bindT k)) := by
  obtain ⟨t, fr, h1⟩ := h.binds
  rw [cell_of_row w 6 k bindVals t fr h1]
  have : k = 0 ∨ k = 1 ∨ k = 2 ∨ k = 3 ∨ k = 4 ∨ k = 5 ∨ k = 6 ∨ k = 7 ∨ k = 8 ∨ k = 9 ∨ k = 10 ∨ k = 11 ∨ k = 12 ∨ k = 13 ∨ k = 14 ∨ k = 15 := by omega
  rcases this with rfl | rfl | rfl | rfl | rfl | rfl | rfl | rfl | rfl | rfl | rfl | rfl | rfl | rfl | rfl | rfl <;> rfl
theorem Tabs.own {w : World} (h : Tabs w) {k : Nat} (hk : k < 15) : w.cell? ⟨0, k, none⟩ = some (.string ⟨(ownedT k).toArray⟩) := by
  obtain ⟨t, fr, h1⟩ := h.owned
  rw [cell_of_row w 0 k ownedVals t fr h1]
  have : k = 0 ∨ k = 1 ∨ k = 2 ∨ k = 3 ∨ k = 4 ∨ k = 5 ∨ k = 6 ∨ k = 7 ∨ k = 8 ∨ k = 9 ∨ k = 10 ∨ k = 11 ∨ k = 12 ∨ k = 13 ∨ k = 14 := by omega
  rcases this with rfl | rfl | rfl | rfl | rfl | rfl | rfl | rfl | rfl | rfl | rfl | rfl | rfl | rfl | rfl <;> rfl
theorem Tabs.form {w : World} (h : Tabs w) {k : Nat} (hk : k < 15) : w.cell? ⟨1, k, none⟩ = some (.string ⟨(formsT k).toArray⟩) := by
  obtain ⟨t, fr, h1⟩ := h.forms
  rw [cell_of_row w 1 k formsVals t fr h1]
  have : k = 0 ∨ k = 1 ∨ k = 2 ∨ k = 3 ∨ k = 4 ∨ k = 5 ∨ k = 6 ∨ k = 7 ∨ k = 8 ∨ k = 9 ∨ k = 10 ∨ k = 11 ∨ k = 12 ∨ k = 13 ∨ k = 14 := by omega
  rcases this with rfl | rfl | rfl | rfl | rfl | rfl | rfl | rfl | rfl | rfl | rfl | rfl | rfl | rfl | rfl <;> rfl
/-- What a call of one text comes back with. -/
def GivesSB (l : List UInt8) (w : World) (e : Ending) (w' : World) : Prop := e = .returned (.string ⟨l.toArray⟩) ∧ Below w.heap.size w w'
theorem givesSB_of {l l' : List UInt8} {w w' : World} {e : Ending} (he : e = .returned (.string ⟨l'.toArray⟩)) (h : l' = l) (hb : Below w.heap.size w w') : GivesSB l w e w' := by
  subst h; exact ⟨he, hb⟩
set_option maxHeartbeats 1000000 in
theorem wtext_any (n : Int) (h0 : -9223372036854775808 ≤ n) (h1 : n ≤ 9223372036854775807) (w : World) (ht : Tabs w) : Calls Tryz.prog 97 #[.int .i64 n] w (GivesSB (Lib.itoa n) w) := by
  have HT := Lib.hid ht.pows
  clear ht
  go_enter Tryz.func97, Tryz.ntmps97
  go_wp2_with fail
  refine (Tryz.strconv_Itoa n h0 h1 _ HT.out).mono ?_
  rintro e w' ⟨rfl, k, os, rfl⟩
  go_wp2
  go_ret
  exact ⟨rfl, Lib.below_grow _ _ (Nat.le_refl _) _ _⟩

/-! ### What is shown. -/
def showX (inner : Bool) : Ex → List UInt8
  | .leaf a => if a.op = 1 then Lib.itoa a.n else a.name
  | .un a x => signT a.op.toNat ++ showX true x
  | .bin a x y => if inner = true then [40] ++ (showX true x ++ [32] ++ signT a.op.toNat ++ [32] ++ showX true y) ++ [41] else showX true x ++ [32] ++ signT a.op.toNat ++ [32] ++ showX true y
/-- The nodes' names and numbers are no greater than those of an expression that is right. -/
def SmallX (x : Ex) : Prop := ∀ a ∈ x.flat, a.name.length ≤ 16 ∧ 0 ≤ a.n ∧ a.n ≤ 4294967296
theorem sign_len (k : Nat) : (signT k).length ≤ 2 := by
  by_cases h : k < 16
  · revert h
    have : ∀ k : Fin 16, (signT k).length ≤ 2 := by decide
    exact fun h => this ⟨k, h⟩
  · unfold signT; rw [List.getD_eq_getElem?_getD, List.getElem?_eq_none (by show 16 ≤ k; omega)]; decide
theorem show_len (x : Ex) : ∀ (b : Bool), SmallX x → (showX b x).length ≤ 21 * x.size := by
  induction x with
  | leaf a =>
    intro b h
    have ha := h a (by simp [Ex.flat])
    unfold showX
    split
    · have := Lib.itoa_length_le a.n (by omega) (by omega)
      simp only [Ex.size]; omega
    · simp only [Ex.size]; omega
  | un a x ih =>
    intro b h
    have := ih true (fun c hc => h c (by simp [Ex.flat, hc]))
    have h2 := sign_len a.op.toNat
    simp only [showX, List.length_append, Ex.size]; omega
  | bin a x y ih1 ih2 =>
    intro b h
    have i1 := ih1 true (fun c hc => h c (by simp [Ex.flat, hc]))
    have i2 := ih2 true (fun c hc => h c (by simp [Ex.flat, hc]))
    have h2 := sign_len a.op.toNat
    simp only [showX, Ex.size]
    split
    · simp only [List.length_append, List.length_cons, List.length_nil]; omega
    · simp only [List.length_append, List.length_cons, List.length_nil]; omega
end Go.Proofs.YtpeohfgadnfnpaaGreatDoor
