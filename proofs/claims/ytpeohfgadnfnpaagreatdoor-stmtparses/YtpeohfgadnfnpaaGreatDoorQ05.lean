/-
  DERIVED. Texts of the walk, packed: Fit, Right, Shelf, Tabs.
-/
import Derived.Test.YtpeohfgadnfnpaaGreatDoorQ02
import Derived.Test.YtpeohfgadnfnpaaGreatDoorQ03
import Derived.Test.YtpeohfgadnfnpaaGreatDoorQ04
import Derived.Shelf.Strconv.Itoa0
import Derived.Shelf.Strconv.Itoa1
import Derived.Shelf.LaysM
import Derived.Shelf.Strconv.Itoa2
import Derived.Shelf.Strconv.Itoa3
import Derived.Test.YtpeohfgadnfnpaaGreatDoorProg
import Derived.Lib.AppendIntMem
import Derived.Lib.ItoaLen
import Derived.Lib.Space
/-
  DERIVED. Layer 3: which expressions are right, their parts; nothing of the program in it.
-/
namespace Go.Proofs.YtpeohfgadnfnpaaGreatDoor

def nodOK (a : Nod) : Bool := decide (0 ≤ a.pl) && decide (a.pl ≤ 4000) && (if a.op = 1 then decide (0 ≤ a.n) && decide (a.n ≤ 4294967296) && a.name.isEmpty else if a.op = 2 then decide (a.n = 0) && nameB a.name else decide (a.n = 0) && a.name.isEmpty)
/-- Is an expression right? -/
def rightL (L : List Nod) : Bool := match wholeT L with
  | some x => decide (L.length ≤ 40) && L.all nodOK && decide (x.deep ≤ 12)
  | none => false
theorem right_some {L : List Nod} (h : rightL L = true) : ∃ x, wholeT L = some x ∧ x.ok ∧ L = x.flat ∧ L.length ≤ 40 ∧ L.all nodOK = true ∧ x.deep ≤ 12 := by
  unfold rightL at h
  cases hw : wholeT L with
  | none => rw [hw] at h; cases h
  | some x =>
    rw [hw] at h
    simp only [Bool.and_eq_true, decide_eq_true_eq] at h
    obtain ⟨h1, h2⟩ := whole_some hw
    exact ⟨x, rfl, h1, h2, h.1.1, h.1.2, h.2⟩
theorem right_flat {x : Ex} (h : x.ok) : rightL x.flat = (decide (x.size ≤ 40) && x.flat.all nodOK && decide (x.deep ≤ 12)) := by
  unfold rightL; rw [whole_flat h, flat_len]
/-- The parts that stand behind the first node. -/
def Ex.kids : Ex → List Ex
  | .leaf _ => []
  | .un _ x => [x]
  | .bin _ x y => [x, y]
theorem flat_kids (x : Ex) : x.flat = x.top :: x.kids.flatMap Ex.flat := by cases x <;> simp [Ex.flat, Ex.top, Ex.kids]
def sizes (l : List Ex) : Nat := (l.map Ex.size).sum
def deeps (l : List Ex) : Nat := l.foldl (fun m y => max m (y.deep + 1)) 1
theorem size_kids (x : Ex) : x.size = 1 + sizes x.kids := by cases x <;> simp [Ex.size, sizes, Ex.kids] <;> omega
theorem deep_kids (x : Ex) : x.deep = deeps x.kids := by
  cases x with
  | leaf a => rfl
  | un a x => simp [Ex.deep, deeps, Ex.kids]
  | bin a x y => simp [Ex.deep, deeps, Ex.kids]
theorem ok_kids {x : Ex} (h : x.ok) : (∀ y ∈ x.kids, y.ok) ∧ takesN x.top.op = some x.kids.length := by
  cases x with
  | leaf a => exact ⟨fun y hy => by simp [Ex.kids] at hy, h⟩
  | un a x => exact ⟨fun y hy => by simp [Ex.kids] at hy; subst hy; exact h.2, h.1⟩
  | bin a x y => exact ⟨fun z hz => by simp [Ex.kids] at hz; rcases hz with rfl | rfl; exact h.2.1; exact h.2.2, h.1⟩
theorem deeps_snoc (l : List Ex) (y : Ex) : deeps (l ++ [y]) = max (deeps l) (y.deep + 1) := by simp [deeps]
theorem sizes_app (l m : List Ex) : sizes (l ++ m) = sizes l + sizes m := by simp [sizes]
theorem sizes_cons (y : Ex) (m : List Ex) : sizes (y :: m) = y.size + sizes m := by simp [sizes]
theorem flats_len (l : List Ex) : (l.flatMap Ex.flat).length = sizes l := by
  induction l with
  | nil => rfl
  | cons y l ih => rw [List.flatMap_cons, List.length_append, ih, flat_len, sizes_cons]
/-- The part that comes next among the nodes. -/
theorem kid_next {x y : Ex} {d r : List Ex} (h : x.kids = d ++ y :: r) : x.flat.drop (1 + sizes d) = y.flat ++ r.flatMap Ex.flat := by
  rw [flat_kids, h, Nat.add_comm, List.drop_succ_cons, List.flatMap_append, List.flatMap_cons, ← flats_len, List.drop_left]
theorem kid_end {x y : Ex} {d r : List Ex} (h : x.kids = d ++ y :: r) (ho : y.ok) : endV x.flat ((1 + sizes d : Nat) : Int) = ((1 + sizes d + y.size : Nat) : Int) := by
  rw [endV_nat, kid_next h, endC_flat y _ ho]
theorem kid_part {x y : Ex} {d r : List Ex} (h : x.kids = d ++ y :: r) : (x.flat.take (1 + sizes d + y.size)).drop (1 + sizes d) = y.flat := by
  rw [List.drop_take, kid_next h, show 1 + sizes d + y.size - (1 + sizes d) = y.flat.length from by rw [flat_len]; omega, List.take_left]
end Go.Proofs.YtpeohfgadnfnpaaGreatDoor
/-
  DERIVED. Layer 3: contracts of expr.deep, expr.wrongNode, slices.ContainsFunc at it, and expr.Right.
-/
namespace Go.Proofs.YtpeohfgadnfnpaaGreatDoor
open Go.RowKit

set_option maxRecDepth 100000 in
set_option maxHeartbeats 2000000 in
theorem deep_any : ∀ (n : Nat) (x : Ex) (v : Value) (w : World), x.size ≤ n → n ≤ 10000 → x.ok → ReadN w v x.flat → Calls Tryz.prog 116 #[v] w (TellsI x.deep w) := by
  intro n
  induction n with
  | zero => intro x v w h; have := size_pos x; omega
  | succ n ih =>
    intro x v w hs hn ho h
    obtain ⟨g, o, c, rfl, hc, hm, hg⟩ := h.addr (flat_ne x)
    have HSZ := Lib.hid (size_kids x)
    have hok := (ok_kids ho).1
    have HD := Lib.hid (deep_kids x)
    have HH := Lib.hid h
    have HI := Lib.hid ih
    have HO := Lib.hid hok
    have HL := Lib.hid (flat_len x)
    have hdz := deep_size x
    rw [flat_len] at hc ⊢
    clear ih h hok
    unfold maxLen at hm
    go_enter Tryz.func116, Tryz.ntmps116
    go_wp2_with fail
    go_loop [3, 4] (fun d f => ∃ done rest : List Ex, x.kids = done ++ rest ∧ d = .int .i64 (deeps done : Nat) ∧ f = .int .i64 (1 + sizes done : Nat) ∧ deeps done ≤ 10001) (fun _ f => x.size - (intOf f).toNat)
    case atStart => exact ⟨[], x.kids, rfl, rfl, rfl, by decide⟩
    case round =>
      obtain ⟨done, rest, hk, rfl, rfl, hd⟩ := hrel
      have HSUM : Hid (x.size = 1 + (sizes done + sizes rest)) := Lib.hid (by rw [HSZ.out, hk, sizes_app])
      cases rest with
      | nil =>
        have HX : Hid (x.deep = deeps done) := Lib.hid (by rw [HD.out, hk, List.append_nil])
        have hlt : ¬ ((1 + sizes done : Nat) : Int) < (x.size : Int) := by rw [HSUM.out]; show ¬ ((1 + sizes done : Nat) : Int) < ((1 + (sizes done + 0) : Nat) : Int); omega
        clear hk
        go_wp2_with fail
        go_ret
        exact ⟨ret_int (by rw [HX.out]), rfl⟩
      | cons y rest =>
        have hp := size_pos y
        have hle : 1 + sizes done + y.size ≤ x.size := by rw [HSUM.out, sizes_cons]; omega
        have hoy : y.ok := HO.out y (by rw [hk]; simp)
        have HE := Lib.hid (kid_end hk hoy)
        have HP := Lib.hid (kid_part hk)
        have HS := Lib.hid (deeps_snoc done y)
        have HZ : Hid (sizes (done ++ [y]) = sizes done + y.size) := Lib.hid (by rw [sizes_app]; simp [sizes])
        have HK : Hid (x.kids = (done ++ [y]) ++ rest) := Lib.hid (by rw [hk]; simp)
        have hdy := deep_size y
        have HY := Lib.hid hoy
        clear hk hoy
        have hlt : ((1 + sizes done : Nat) : Int) < (x.size : Int) := by omega
        generalize hfr : 1 + sizes done = fr at *
        have HF := Lib.hid hfr
        clear hfr
        go_wp2_with fail
        refine (end_any _ x.flat _ _ (by rw [← HL.out]; exact HH.out) (by rw [HL.out]; omega)).mono ?_
        rw [HE.out]
        rintro e w' ⟨rfl, rfl⟩
        go_wp2_with fail
        refine (HI.out y _ _ ?h1 (by omega) HY.out ?h2).mono ?_
        case h1 => have := HF.out; omega
        case h2 =>
          have hq := ReadN.part (k := fr) (to := fr + y.size) HH.out (by omega) (by rw [HL.out]; omega)
          rw [HP.out, show fr + y.size - fr = y.size from by omega] at hq
          exact hq
        rintro e w' ⟨rfl, rfl⟩
        go_wp2_with fail
        go_round
        case rel => exact ⟨done ++ [y], rest, HK.out, by rw [HS.out]; first | rfl | go_num | (congr 1; omega), by rw [HZ.out, ← HF.out]; first | rfl | (congr 1; omega), by rw [HS.out]; omega⟩
        case measure => simp [intOf]; omega

/-- A node as a value. -/
def nodV (a : Nod) : Value := .agg #[.int .i64 a.op, .int .i64 a.n, .string ⟨a.name.toArray⟩, .int .i64 a.pl]
theorem empty_cases (l : List UInt8) : (l.isEmpty = true ∧ (l == []) = true ∧ l = []) ∨ (l.isEmpty = false ∧ (l == []) = false ∧ l ≠ []) := by
  cases l with
  | nil => exact .inl ⟨rfl, rfl, rfl⟩
  | cons c l => exact .inr ⟨rfl, rfl, by simp⟩

set_option maxRecDepth 100000 in
set_option maxHeartbeats 2000000 in
theorem wrong_any (a : Nod) (w : World) (hn : a.name.length ≤ 100000) : Calls Tryz.prog 115 #[.agg #[.int .i64 a.op, .int .i64 a.n, .string ⟨a.name.toArray⟩, .int .i64 a.pl]] w (TellsB (!nodOK a) w) := by
  obtain ⟨op, n, name, pl⟩ := a
  simp only at hn ⊢
  go_enter Tryz.func115, Tryz.ntmps115
  go_wp2_with fail
  case isTrue =>
    refine (name_any ⟨name.toArray⟩ _ (by show name.toArray.size ≤ _; simpa using hn)).mono ?_
    rw [show (ByteArray.mk name.toArray).data.toList = name from by simp]
    rintro e w1 ⟨rfl, hb⟩
    have HB := Lib.hid (below_box hb)
    clear hb
    go_wp2_with fail
    go_ret
    exact ⟨ret_bool (by simp_all [nodOK]), HB.out⟩
  all_goals
    go_ret
    refine ⟨ret_bool ?_, (Below.refl _ _).alloc (Nat.le_refl _) _⟩
    simp_all [nodOK]
    try omega

/-! ### Is there a node that is wrong? -/
theorem all_succN {p : Nod → Bool} {L : List Nod} {k : Nat} {a : Nod} (h : L[k]? = some a) (ha : (L.take k).all p = true) (hp : p a = true) : (L.take (k + 1)).all p = true := by
  rw [List.take_add_one, h, List.all_append, ha]; simp [hp]
theorem any_wrong {L : List Nod} {k : Nat} {a : Nod} (h : L[k]? = some a) (hp : nodOK a = false) : L.all nodOK = false := by
  rw [List.all_eq_false]; exact ⟨a, List.mem_of_getElem? h, by simp [hp]⟩
def SmallN (L : List Nod) : Prop := ∀ a ∈ L, a.name.length ≤ 100000
/-- An index, or -1; it tells whether all nodes are right. -/
def GivesX (b : Bool) (w : World) (e : Ending) (w' : World) : Prop := ∃ n : Int, e = .returned (.int .i64 n) ∧ decide (0 ≤ n) = b ∧ Below w.heap.size w w'

set_option maxRecDepth 100000 in
set_option maxHeartbeats 2000000 in
theorem indexWrong_any (v : Value) (L : List Nod) (w : World) (h : ReadN w v L) (hl : L.length ≤ 10000) (hs : SmallN L) : Calls Tryz.prog 130 #[v, .func (.func 115) #[] #[]] w (GivesX (!L.all nodOK) w) := by
  have HS := Lib.hid hs
  have HR := Lib.hid h
  obtain ⟨A, c, hv, hc, hm, hr⟩ := h
  subst hv
  clear hr hs
  go_enter Tryz.func130, Tryz.ntmps130
  go_wp2_with fail
  go_loopw [8] (fun i wr => ∃ k : Nat, k ≤ L.length ∧ i = .int .i64 k ∧ (L.take k).all nodOK = true ∧ Below w.heap.size w wr) (fun i _ => L.length - (intOf i).toNat)
  case atStart => exact ⟨0, Nat.zero_le _, rfl, rfl, Below.refl _ _⟩
  case round =>
    obtain ⟨k, hk, rfl, ha, hb⟩ := hrel
    have HA := Lib.hid ha
    have HB := Lib.hid hb
    clear ha
    by_cases hlt : k < L.length
    · have hat : L[k]? = some L[k] := List.getElem?_eq_getElem hlt
      have hsm := HS.out _ (List.getElem_mem hlt)
      generalize L[k] = a at *
      obtain ⟨A', c', hv', _, _, hr'⟩ := HR.out.on hb
      obtain ⟨rfl, _, rfl⟩ : A = A' ∧ True ∧ c = c' := by simpa using hv'
      obtain ⟨g, o, rfl, hg, x0, x1, x2, x3⟩ := hr' k a hat
      clear hr' hv' hb
      cases hw : nodOK a with
      | true =>
        have HN := Lib.hid (all_succN hat HA.out hw)
        have HW := Lib.hid hw
        clear hat hw
        go_wp2_with fail
        refine (wrong_any a _ hsm).mono ?_
        rw [HW.out]
        rintro e w1 ⟨rfl, hb⟩
        have HB2 := Lib.hid (below_then HB.out hb)
        clear hb
        go_wp2_with fail
        go_roundw
        case rel => exact ⟨k + 1, by omega, by go_num, HN.out, HB2.out⟩
        case measure => simp [intOf]; omega
      | false =>
        have HN := Lib.hid (any_wrong hat hw)
        have HW := Lib.hid hw
        clear hat hw
        go_wp2_with fail
        refine (wrong_any a _ hsm).mono ?_
        rw [HW.out]
        rintro e w1 ⟨rfl, hb⟩
        have HB2 := Lib.hid (below_then HB.out hb)
        clear hb
        go_wp2_with fail
        go_ret
        exact ⟨k, rfl, by rw [HN.out]; simp, HB2.out⟩
    · have HN : Hid (L.all nodOK = true) := Lib.hid (by have := HA.out; rwa [List.take_of_length_le (by omega)] at this)
      clear hb
      go_wp2_with fail
      go_ret
      exact ⟨-1, rfl, by rw [HN.out]; rfl, HB.out⟩

set_option maxHeartbeats 2000000 in
theorem anyWrong_any (v : Value) (L : List Nod) (w : World) (h : ReadN w v L) (hl : L.length ≤ 10000) (hs : SmallN L) : Calls Tryz.prog 114 #[v, .func (.func 115) #[] #[]] w (TellsB (!L.all nodOK) w) := by
  have HH := Lib.hid h
  have HS := Lib.hid hs
  clear h hs
  go_enter Tryz.func114, Tryz.ntmps114
  go_wp2_with fail
  refine (indexWrong_any v L _ HH.out hl HS.out).mono ?_
  rintro e w1 ⟨n, rfl, hn, hb⟩
  have HN := Lib.hid hn
  have HB := Lib.hid hb
  clear hn hb
  go_wp2_with fail
  go_ret
  exact ⟨ret_bool HN.out, HB.out⟩

set_option maxRecDepth 100000 in
set_option maxHeartbeats 2000000 in
theorem right_any (v : Value) (L : List Nod) (w : World) (h : ReadN w v L) (hl : L.length ≤ 10000) (hs : SmallN L) : Calls Tryz.prog 80 #[v] w (TellsB (rightL L) w) := by
  have HH := Lib.hid h
  have HS := Lib.hid hs
  obtain ⟨A, c, hv, hc, hm, hr⟩ := h
  subst hv
  clear hr hs
  by_cases h40 : L.length ≤ 40
  · cases hw : wholeT L with
    | none =>
      have HE := Lib.hid (end_not hw)
      have HR : Hid (rightL L = false) := Lib.hid (by unfold rightL; rw [hw])
      obtain ⟨n, hn⟩ : ∃ n, endV L 0 = n := ⟨_, rfl⟩
      have HNN := Lib.hid hn
      have hne : (n == (L.length : Int)) = false := beq_eq_false_iff_ne.2 (by rw [← hn]; exact HE.out)
      clear hn hw
      go_enter Tryz.func80, Tryz.ntmps80
      go_wp2_with fail
      refine (end_any _ L 0 _ HH.out hl).mono ?_
      rw [HNN.out]
      rintro e w' ⟨rfl, rfl⟩
      go_wp2_with fail
      go_ret
      exact ⟨ret_bool HR.out.symm, Below.refl _ _⟩
    | some x =>
      have HE := Lib.hid (end_whole hw)
      obtain ⟨ho, hf⟩ := whole_some hw
      have HF := Lib.hid hf
      have HO := Lib.hid ho
      have HX : Hid (rightL L = (L.all nodOK && decide (x.deep ≤ 12))) := Lib.hid (by unfold rightL; rw [hw]; simp [h40])
      have hsz : x.size ≤ 40 := by rw [← flat_len, ← hf]; exact h40
      clear hw hf ho
      cases ha : L.all nodOK with
      | false =>
        have HA := Lib.hid ha
        have HR : Hid (rightL L = false) := Lib.hid (by rw [HX.out, ha]; rfl)
        clear ha
        go_enter Tryz.func80, Tryz.ntmps80
        go_wp2_with fail
        refine (end_any _ L 0 _ HH.out hl).mono ?_
        rw [HE.out]
        rintro e w' ⟨rfl, rfl⟩
        go_wp2_with fail
        refine (anyWrong_any _ L _ HH.out hl HS.out).mono ?_
        rw [HA.out]
        rintro e w1 ⟨rfl, hb⟩
        go_wp2_with fail
        go_ret
        exact ⟨ret_bool HR.out.symm, hb⟩
      | true =>
        have HA := Lib.hid ha
        have HR : Hid (rightL L = decide (x.deep ≤ 12)) := Lib.hid (by rw [HX.out, ha]; rfl)
        clear ha
        go_enter Tryz.func80, Tryz.ntmps80
        go_wp2_with fail
        refine (end_any _ L 0 _ HH.out hl).mono ?_
        rw [HE.out]
        rintro e w' ⟨rfl, rfl⟩
        go_wp2_with fail
        refine (anyWrong_any _ L _ HH.out hl HS.out).mono ?_
        rw [HA.out]
        rintro e w1 ⟨rfl, hb⟩
        have HB := Lib.hid hb
        clear hb
        go_wp2_with fail
        refine (deep_any 40 x _ _ hsz (by omega) HO.out (by rw [← HF.out]; exact HH.out.on HB.out)).mono ?_
        rintro e w' ⟨rfl, rfl⟩
        go_wp2_with fail
        go_ret
        exact ⟨ret_bool (by rw [HR.out, Bool.eq_iff_iff]; simp; omega), HB.out⟩
  · have HR : Hid (rightL L = false) := Lib.hid (by unfold rightL; cases wholeT L <;> simp [h40])
    go_enter Tryz.func80, Tryz.ntmps80
    go_wp2_with fail
    go_ret
    exact ⟨ret_bool HR.out.symm, Below.refl _ _⟩
end Go.Proofs.YtpeohfgadnfnpaaGreatDoor
/-
  DERIVED. Contracts of the guide laid at this program, in plain words.
-/
namespace Go.Proofs
open Go.Shelf
def Tryz.laysM171_ren : Go.Shelf.Ren := ⟨fun | 171 => 122 | 243 => 138 | 246 => 144 | 283 => 150 | 284 => 151 | 285 => 152 | 286 => 153 | 129 => 160 | 317 => 159 | 318 => 161 | 319 => 162 | 320 => 163 | 337 => 166 | 338 => 167 | n => n, fun | 3 => 3 | 9 => 9 | 2 => 2 | 4 => 4 | 171 => 179 | 0 => 0 | 53 => 180 | 37 => 85 | 5 => 5 | 173 => 183 | 212 => 191 | 51 => 134 | 20 => 20 | 213 => 192 | 46 => 146 | 232 => 195 | 233 => 196 | n => n, fun | 17 => 7 | 18 => 8 | 19 => 9 | n => n⟩
theorem Tryz.laysM171 : Go.Proofs.LaysM.n171 Tryz.prog Tryz.laysM171_ren := {
  mixed := by kernel_rfl
  f129 := Tryz.func160.trans (congrArg some (by kernel_rfl))
  f171 := Tryz.func122.trans (congrArg some (by kernel_rfl))
  f243 := Tryz.func138.trans (congrArg some (by kernel_rfl))
  f246 := Tryz.func144.trans (congrArg some (by kernel_rfl))
  f283 := Tryz.func150.trans (congrArg some (by kernel_rfl))
  f284 := Tryz.func151.trans (congrArg some (by kernel_rfl))
  f285 := Tryz.func152.trans (congrArg some (by kernel_rfl))
  f286 := Tryz.func153.trans (congrArg some (by kernel_rfl))
  f317 := Tryz.func159.trans (congrArg some (by kernel_rfl))
  f318 := Tryz.func161.trans (congrArg some (by kernel_rfl))
  f319 := Tryz.func162.trans (congrArg some (by kernel_rfl))
  f320 := Tryz.func163.trans (congrArg some (by kernel_rfl))
  f337 := Tryz.func166.trans (congrArg some (by kernel_rfl))
  f338 := Tryz.func167.trans (congrArg some (by kernel_rfl))
  t0 := Tryz.underlying0
  a0 := Tryz.isAgg0
  z0 := Tryz.sizeOf0
  v0 := Tryz.zeroValue0
  t2 := Tryz.underlying2
  a2 := Tryz.isAgg2
  z2 := Tryz.sizeOf2
  v2 := Tryz.zeroValue2
  t3 := Tryz.underlying3
  a3 := Tryz.isAgg3
  z3 := Tryz.sizeOf3
  v3 := Tryz.zeroValue3
  t4 := Tryz.underlying4
  a4 := Tryz.isAgg4
  z4 := Tryz.sizeOf4
  v4 := Tryz.zeroValue4
  t5 := Tryz.underlying5
  a5 := Tryz.isAgg5
  z5 := Tryz.sizeOf5
  v5 := Tryz.zeroValue5
  t9 := Tryz.underlying9
  a9 := Tryz.isAgg9
  z9 := Tryz.sizeOf9
  v9 := Tryz.zeroValue9
  t20 := Tryz.underlying20
  a20 := Tryz.isAgg20
  z20 := Tryz.sizeOf20
  v20 := Tryz.zeroValue20
  t37 := Tryz.underlying85
  a37 := Tryz.isAgg85
  z37 := Tryz.sizeOf85
  v37 := Tryz.zeroValue85
  t46 := Tryz.underlying146
  a46 := Tryz.isAgg146
  z46 := Tryz.sizeOf146
  v46 := Tryz.zeroValue146
  t51 := Tryz.underlying134
  a51 := Tryz.isAgg134
  z51 := Tryz.sizeOf134
  v51 := Tryz.zeroValue134
  t53 := Tryz.underlying180
  a53 := Tryz.isAgg180
  z53 := Tryz.sizeOf180
  v53 := Tryz.zeroValue180
  t171 := Tryz.underlying179
  a171 := Tryz.isAgg179
  z171 := Tryz.sizeOf179
  v171 := Tryz.zeroValue179
  t173 := Tryz.underlying183
  a173 := Tryz.isAgg183
  z173 := Tryz.sizeOf183
  v173 := Tryz.zeroValue183
  t212 := Tryz.underlying191
  a212 := Tryz.isAgg191
  z212 := Tryz.sizeOf191
  v212 := Tryz.zeroValue191
  t213 := Tryz.underlying192
  a213 := Tryz.isAgg192
  z213 := Tryz.sizeOf192
  t232 := Tryz.underlying195
  a232 := Tryz.isAgg195
  z232 := Tryz.sizeOf195
  v232 := Tryz.zeroValue195
  t233 := Tryz.underlying196
  a233 := Tryz.isAgg196
  z233 := Tryz.sizeOf196
  v233 := Tryz.zeroValue196
  g17 := by kernel_rfl
  g18 := by kernel_rfl
  g19 := by kernel_rfl
  i0 := by kernel_rfl
  i2 := by kernel_rfl
  i3 := by kernel_rfl
  i4 := by kernel_rfl
  i5 := by kernel_rfl
  i9 := by kernel_rfl
  i20 := by kernel_rfl
  i37 := by kernel_rfl
  i46 := by kernel_rfl
  i51 := by kernel_rfl
  i53 := by kernel_rfl
  i171 := by kernel_rfl
  i173 := by kernel_rfl
  i212 := by kernel_rfl
  i232 := by kernel_rfl
  i233 := by kernel_rfl
  m17 := by kernel_rfl
  m18 := by kernel_rfl
  m19 := by kernel_rfl }
open Go.RowKit Go.Sort Go.Lib in
theorem Tryz.strconv_Itoa (n : Int) (h0 : -9223372036854775808 ≤ n) (h1 : n ≤ 9223372036854775807) (w : World) (htab : Lib.TabIs Tryz.prog w "internal/strconv.uint64pow10" .u64 Lib.pow10Tab) :
    Calls Tryz.prog 122 #[.int .i64 n] w fun e w' => e = .returned (.string ⟨(Lib.itoa n).toArray⟩) ∧ ∃ k os, w' = grow (w.drewN k) os := Any.strconv_Itoa Tryz.laysM171 n h0 h1 w htab
end Go.Proofs
/-
  DERIVED. Layer 3: the tables that the rows list, as the walks take them; the contract of words.Text; what is shown of an expression.
-/
namespace Go.Proofs.YtpeohfgadnfnpaaGreatDoor
open Go.RowKit

def signVals : Array Value := (signsTab.map fun t => Value.string ⟨t.toArray⟩).toArray
def bindVals : Array Value := (bindsTab.map fun z => Value.int .i64 z).toArray
/-- What each kind has; how each kind is written: the two tables of stmt. -/
def ownedTab : List (List UInt8) := [[], [114, 101], [114, 110], [110, 101], [114, 110, 101, 102], [110], [110], [], [], [110], [110], [101, 98], [107, 98], [], [101]]
def formsTab : List (List UInt8) := [[], [114, 32, 61, 32, 101, 32, 59], [108, 111, 97, 100, 32, 114, 32, 61, 32, 110, 32, 59], [115, 116, 111, 114, 101, 32, 110, 32, 61, 32, 101, 32, 59], [99, 97, 115, 32, 114, 32, 61, 32, 110, 32, 44, 32, 101, 32, 44, 32, 102, 32, 59], [102, 108, 117, 115, 104, 32, 110, 32, 59], [111, 112, 116, 32, 110, 32, 59], [115, 102, 101, 110, 99, 101, 32, 59], [109, 102, 101, 110, 99, 101, 32, 59], [116, 97, 107, 101, 32, 110, 32, 59], [103, 105, 118, 101, 32, 110, 32, 59], [105, 102, 32, 101, 32, 98], [108, 111, 111, 112, 32, 107, 32, 98], [98, 114, 101, 97, 107, 32, 59], [99, 104, 101, 99, 107, 32, 101, 32, 59]]
def ownedT (k : Nat) : List UInt8 := ownedTab.getD k []
def formsT (k : Nat) : List UInt8 := formsTab.getD k []
def ownedVals : Array Value := (ownedTab.map fun t => Value.string ⟨t.toArray⟩).toArray
def formsVals : Array Value := (formsTab.map fun t => Value.string ⟨t.toArray⟩).toArray
theorem gSpace : Tryz.prog.globalNamed (Tryz.prog.globals[2]?.map (·.name)).get! = some 2 := by kernel_rfl
theorem gPow : Tryz.prog.globalNamed (Tryz.prog.globals[7]?.map (·.name)).get! = some 7 := by kernel_rfl
/-- The tables stand in the world. -/
structure Tabs (w : World) : Prop where
  owned : ∃ t fr, w.heap[0]? = some (.cells ownedVals t fr)
  forms : ∃ t fr, w.heap[1]? = some (.cells formsVals t fr)
  space : Lib.TabIs Tryz.prog w (Tryz.prog.globals[2]?.map (·.name)).get! .u8 Lib.asciiSpaceTab
  signs : ∃ t fr, w.heap[5]? = some (.cells signVals t fr)
  binds : ∃ t fr, w.heap[6]? = some (.cells bindVals t fr)
  pows : Lib.TabIs Tryz.prog w (Tryz.prog.globals[7]?.map (·.name)).get! .u64 Lib.pow10Tab
theorem Tabs.lt {w : World} (h : Tabs w) : 6 < w.heap.size := by
  obtain ⟨t, fr, h⟩ := h.binds
  exact (Array.getElem?_eq_some_iff.1 h).1
theorem Tabs.lt2 {w : World} (h : Tabs w) : 7 < w.heap.size := by
  have h3 := h.pows
  unfold Lib.TabIs World.var? at h3
  rw [gPow] at h3
  simp only [Option.bind_some] at h3
  rcases Nat.lt_or_ge 7 w.heap.size with h' | h'
  · exact h'
  · rw [Array.getElem?_eq_none h'] at h3; simp at h3
/-- The tables stand where their blocks do. -/
theorem Tabs.same {w w' : World} (h : Tabs w) (hb : ∀ k, k ≤ 7 → w'.heap[k]? = w.heap[k]?) : Tabs w' := by
  obtain ⟨⟨t0, f0, s0⟩, ⟨t1, f1, s1⟩, s2, ⟨t, fr, s5⟩, ⟨t2, fr2, s6⟩, s7⟩ := h
  refine ⟨⟨t0, f0, (hb 0 (by omega)).trans s0⟩, ⟨t1, f1, (hb 1 (by omega)).trans s1⟩, ?_, ⟨t, fr, (hb 5 (by omega)).trans s5⟩, ⟨t2, fr2, (hb 6 (by omega)).trans s6⟩, ?_⟩
  · unfold Lib.TabIs World.var? at *
    rw [gSpace] at *
    simp only [Option.bind_some] at *
    rw [hb 2 (by omega)]; exact s2
  · unfold Lib.TabIs World.var? at *
    rw [gPow] at *
    simp only [Option.bind_some] at *
    rw [hb 7 (by omega)]; exact s7
theorem Tabs.on {w w' : World} (h : Tabs w) (hb : Below w.heap.size w w') : Tabs w' := h.same fun k hk => hb.block k (by have := h.lt2; omega)
theorem Tabs.alloc {w : World} (h : Tabs w) (o : Obj) : Tabs (w.alloc o) := h.on ((Below.refl _ _).alloc (Nat.le_refl _) _)
theorem Tabs.sign {w : World} (h : Tabs w) {k : Nat} (hk : k < 16) : w.cell? ⟨5, k, none⟩ = some (.string ⟨(signT k).toArray⟩) := by
  obtain ⟨t, fr, h1⟩ := h.signs
  rw [cell_of_row w 5 k signVals t fr h1]
  have : k = 0 ∨ k = 1 ∨ k = 2 ∨ k = 3 ∨ k = 4 ∨ k = 5 ∨ k = 6 ∨ k = 7 ∨ k = 8 ∨ k = 9 ∨ k = 10 ∨ k = 11 ∨ k = 12 ∨ k = 13 ∨ k = 14 ∨ k = 15 := by omega
  rcases this with rfl | rfl | rfl | rfl | rfl | rfl | rfl | rfl | rfl | rfl | rfl | rfl | rfl | rfl | rfl | rfl <;> rfl
theorem Tabs.bind {w : World} (h : Tabs w) {k : Nat} (hk : k < 16) : w.cell? ⟨6, k, none⟩ = some (.int .i64 (bindT k)) := by
  obtain ⟨t, fr, h1⟩ := h.binds
  rw [cell_of_row w 6 k bindVals t fr h1]
  have : k = 0 ∨ k = 1 ∨ k = 2 ∨ k = 3 ∨ k = 4 ∨ k = 5 ∨ k = 6 ∨ k = 7 ∨ k = 8 ∨ k = 9 ∨ k = 10 ∨ k = 11 ∨ k = 12 ∨ k = 13 ∨ k = 14 ∨ k = 15 := by omega
  rcases this with rfl | rfl | rfl | rfl | rfl | rfl | rfl | rfl | rfl | rfl | rfl | rfl | rfl | rfl | rfl | rfl <;> rfl
theorem Tabs.own {w : World} (h : Tabs w) {k : Nat} (hk : k < 15) : w.cell? ⟨0, k, none⟩ = some (.string ⟨(ownedT k).toArray⟩) := by
  obtain ⟨t, fr, h1⟩ := h.owned
  rw [cell_of_row w 0 k ownedVals t fr h1]
  have : k = 0 ∨ k = 1 ∨ k = 2 ∨ k = 3 ∨ k = 4 ∨ k = 5 ∨ k = 6 ∨ k = 7 ∨ k = 8 ∨ k = 9 ∨ k = 10 ∨ k = 11 ∨ k = 12 ∨ k = 13 ∨ k = 14 := by omega
  rcases this with rfl | rfl | rfl | rfl | rfl | rfl | rfl | rfl | rfl | rfl | rfl | rfl | rfl | rfl | rfl <;> rfl
theorem Tabs.form {w : World} (h : Tabs w) {k : Nat} (hk : k < 15) : w.cell? ⟨1, k, none⟩ = some (.string ⟨(formsT k).toArray⟩) := by
  obtain ⟨t, fr, h1⟩ := h.forms
  rw [cell_of_row w 1 k formsVals t fr h1]
  have : k = 0 ∨ k = 1 ∨ k = 2 ∨ k = 3 ∨ k = 4 ∨ k = 5 ∨ k = 6 ∨ k = 7 ∨ k = 8 ∨ k = 9 ∨ k = 10 ∨ k = 11 ∨ k = 12 ∨ k = 13 ∨ k = 14 := by omega
  rcases this with rfl | rfl | rfl | rfl | rfl | rfl | rfl | rfl | rfl | rfl | rfl | rfl | rfl | rfl | rfl <;> rfl
/-- What a call of one text comes back with. -/
def GivesSB (l : List UInt8) (w : World) (e : Ending) (w' : World) : Prop := e = .returned (.string ⟨l.toArray⟩) ∧ Below w.heap.size w w'
theorem givesSB_of {l l' : List UInt8} {w w' : World} {e : Ending} (he : e = .returned (.string ⟨l'.toArray⟩)) (h : l' = l) (hb : Below w.heap.size w w') : GivesSB l w e w' := by
  subst h; exact ⟨he, hb⟩
set_option maxHeartbeats 1000000 in
theorem wtext_any (n : Int) (h0 : -9223372036854775808 ≤ n) (h1 : n ≤ 9223372036854775807) (w : World) (ht : Tabs w) : Calls Tryz.prog 97 #[.int .i64 n] w (GivesSB (Lib.itoa n) w) := by
  have HT := Lib.hid ht.pows
  clear ht
  go_enter Tryz.func97, Tryz.ntmps97
  go_wp2_with fail
  refine (Tryz.strconv_Itoa n h0 h1 _ HT.out).mono ?_
  rintro e w' ⟨rfl, k, os, rfl⟩
  go_wp2
  go_ret
  exact ⟨rfl, Lib.below_grow _ _ (Nat.le_refl _) _ _⟩

/-! ### What is shown. -/
def showX (inner : Bool) : Ex → List UInt8
  | .leaf a => if a.op = 1 then Lib.itoa a.n else a.name
  | .un a x => signT a.op.toNat ++ showX true x
  | .bin a x y => if inner = true then [40] ++ (showX true x ++ [32] ++ signT a.op.toNat ++ [32] ++ showX true y) ++ [41] else showX true x ++ [32] ++ signT a.op.toNat ++ [32] ++ showX true y
/-- The nodes' names and numbers are no greater than those of an expression that is right. -/
def SmallX (x : Ex) : Prop := ∀ a ∈ x.flat, a.name.length ≤ 16 ∧ 0 ≤ a.n ∧ a.n ≤ 4294967296
theorem sign_len (k : Nat) : (signT k).length ≤ 2 := by
  by_cases h : k < 16
  · revert h
    have : ∀ k : Fin 16, (signT k).length ≤ 2 := by decide
    exact fun h => this ⟨k, h⟩
  · unfold signT; rw [List.getD_eq_getElem?_getD, List.getElem?_eq_none (by show 16 ≤ k; omega)]; decide
theorem show_len (x : Ex) : ∀ (b : Bool), SmallX x → (showX b x).length ≤ 21 * x.size := by
  induction x with
  | leaf a =>
    intro b h
    have ha := h a (by simp [Ex.flat])
    unfold showX
    split
    · have := Lib.itoa_length_le a.n (by omega) (by omega)
      simp only [Ex.size]; omega
    · simp only [Ex.size]; omega
  | un a x ih =>
    intro b h
    have := ih true (fun c hc => h c (by simp [Ex.flat, hc]))
    have h2 := sign_len a.op.toNat
    simp only [showX, List.length_append, Ex.size]; omega
  | bin a x y ih1 ih2 =>
    intro b h
    have i1 := ih1 true (fun c hc => h c (by simp [Ex.flat, hc]))
    have i2 := ih2 true (fun c hc => h c (by simp [Ex.flat, hc]))
    have h2 := sign_len a.op.toNat
    simp only [showX, Ex.size]
    split
    · simp only [List.length_append, List.length_cons, List.length_nil]; omega
    · simp only [List.length_append, List.length_cons, List.length_nil]; omega
end Go.Proofs.YtpeohfgadnfnpaaGreatDoor
