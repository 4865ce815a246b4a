/-
  DERIVED. Texts of the walk, packed: RRight, RefShA, RefShB.
-/
import Derived.Test.YtpeohfgadnfnpaaGreatDoorQ51
import Derived.Test.YtpeohfgadnfnpaaGreatDoorQ31
import Derived.Deep.RegionHeld3
import Derived.Deep.DrawnRows
/-
  DERIVED. Layer 4: contracts of the document's Right and Depth.
-/
namespace Go.Proofs.YtpeohfgadnfnpaaGreatDoor
open Go.RowKit

theorem all_takeS {L : List Stm} {k : Nat} {x : Stm} (hx : L[k]? = some x) (h : (L.take k).all fitS = true) (hf : fitS x = true) : (L.take (k + 1)).all fitS = true := by
  rw [List.take_add_one, hx, List.all_append, h]; simp [hf]
theorem all_noS {L : List Stm} {k : Nat} {x : Stm} (hx : L[k]? = some x) (hf : fitS x = false) : L.all fitS = false := by
  rw [List.all_eq_false]
  exact ⟨x, List.mem_of_getElem? hx, by rw [hf]; simp⟩
set_option maxRecDepth 100000 in
set_option maxHeartbeats 4000000 in
theorem rright4_any (v : Value) (L : List Stm) (w : World) (h : ReadSt w v L) (hl : L.length ≤ 10000) (hs : ∀ x ∈ L, SmallS x) : Calls Tryz.prog 17 #[v] w (TellsB (rightS L) w) := by
  have HL := Lib.hid h
  have HS := Lib.hid hs
  clear hs
  obtain ⟨A, c, rfl, hc, hm, hr⟩ := h
  have HR := Lib.hid hr
  clear hr
  obtain ⟨V, hV⟩ : ∃ V, rightS L = V := ⟨_, rfl⟩
  rw [hV]
  have HV := Lib.hid hV
  clear hV
  by_cases h40 : L.length ≤ 40
  · go_enter Tryz.func17, Tryz.ntmps17
    go_wp2_with fail
    go_loopw [3] (fun i wr => ∃ k : Nat, k ≤ L.length ∧ i = .int .i64 k ∧ (L.take k).all fitS = true ∧ Below w.heap.size w wr) (fun i _ => L.length - (intOf i).toNat)
    case atStart => exact ⟨0, Nat.zero_le _, rfl, rfl, Below.refl _ _⟩
    case round =>
      obtain ⟨k, hk, rfl, ha, hb⟩ := hrel
      have HA := Lib.hid ha
      have HB := Lib.hid hb
      clear ha hb
      by_cases hlt : k < L.length
      · have hx : L[k]? = some L[k] := List.getElem?_eq_getElem hlt
        generalize L[k] = x at *
        have HSX := Lib.hid (HS.out x (List.mem_of_getElem? hx))
        obtain ⟨g, o, AE, nE, cE, AF, nF, cF, rfl, h9⟩ := HR.out k x hx
        have H9 := Lib.hid (h9.on HB.out)
        clear h9
        obtain ⟨lt9, x0, x1, x2, x3, x4, x5, x6, x7, x8, re, rf⟩ := H9.out
        have HX := Lib.hid hx
        have HRE := Lib.hid re
        have HRF := Lib.hid rf
        clear hx re rf
        go_wp2_with fail
        refine (rfits_any x (.slice AE nE cE) (.slice AF nF cF) _ HRE.out HRF.out HSX.out).mono ?_
        cases hf : fitS x with
        | true =>
          have HN := Lib.hid (all_takeS HX.out HA.out hf)
          rintro e w1 ⟨rfl, hb1⟩
          have HB1 := Lib.hid (below_then HB.out hb1)
          clear hb1
          go_wp2_with fail
          go_roundw
          case rel => exact ⟨k + 1, by omega, by go_num, HN.out, HB1.out⟩
          case measure => simp [intOf]; omega
        | false =>
          have HN : Hid (V = false) := Lib.hid (by rw [← HV.out]; unfold rightS; rw [all_noS HX.out hf]; simp)
          rintro e w1 ⟨rfl, hb1⟩
          have HB1 := Lib.hid (below_then HB.out hb1)
          clear hb1
          go_wp2_with fail
          go_ret
          exact ⟨ret_bool HN.out.symm, HB1.out⟩
      · have HA2 : Hid (L.all fitS = true) := Lib.hid (by have := HA.out; rwa [List.take_of_length_le (by omega)] at this)
        have HRD := Lib.hid (HL.out.on HB.out)
        go_wp2_with fail
        refine (rdeep4_any _ L _ HRD.out h40).mono ?_
        rcases deep_cases 0 L with ⟨ea, ea2⟩ | ⟨a, ea, ea2, ea3⟩
        · have HN : Hid (V = false) := Lib.hid (by rw [← HV.out]; unfold rightS; rw [ea]; simp)
          rw [ea2]
          rintro e w1 ⟨rfl, hb1⟩
          have HB1 := Lib.hid (below_then HB.out hb1)
          clear hb1 ea ea2
          go_wp2_with fail
          go_ret
          exact ⟨ret_bool HN.out.symm, HB1.out⟩
        · have HN : Hid (V = decide ((a : Int) ≤ 12)) := Lib.hid (by
            rw [← HV.out]; unfold rightS; rw [ea, HA2.out]; simp [h40]; omega)
          rw [ea2]
          rintro e w1 ⟨rfl, hb1⟩
          have HB1 := Lib.hid (below_then HB.out hb1)
          clear hb1 ea ea2
          go_wp2_with fail
          go_ret
          exact ⟨ret_bool HN.out.symm, HB1.out⟩
  · have HN : Hid (V = false) := Lib.hid (by rw [← HV.out]; unfold rightS; simp [h40])
    go_enter Tryz.func17, Tryz.ntmps17
    go_wp2_with fail
    go_ret
    exact ⟨ret_bool HN.out.symm, Below.refl _ _⟩
set_option maxRecDepth 100000 in
set_option maxHeartbeats 4000000 in
theorem rdepth4_any (v : Value) (L : List Stm) (w : World) (h : ReadSt w v L) (hl : L.length ≤ 10000) (hs : ∀ x ∈ L, SmallS x) : Calls Tryz.prog 21 #[v] w (GivesN (depthS L) w) := by
  have HL := Lib.hid h
  have HS := Lib.hid hs
  clear hs
  obtain ⟨A, c, rfl, _⟩ := h
  go_enter Tryz.func21, Tryz.ntmps21
  go_wp2_with fail
  refine (rright4_any _ L _ HL.out hl HS.out).mono ?_
  cases hr : rightS L with
  | false =>
    have HN := Lib.hid (depthS_no hr)
    rintro e w1 ⟨rfl, hb1⟩
    go_wp2_with fail
    go_ret
    exact ⟨ret_int HN.out.symm, hb1⟩
  | true =>
    obtain ⟨b, hb, g1, g2, g3, g4, g5⟩ := rightS_some hr
    have HN : Hid (depthS L = deepI 0 L) := Lib.hid (by
      unfold depthS deepI deepS; rw [hr, g5]; simp [g3])
    have h40 : L.length ≤ 40 := by rw [← hb, flat_count]; exact g2
    rintro e w1 ⟨rfl, hb1⟩
    have HB1 := Lib.hid hb1
    clear hb g1 g2 g3 g4 g5 hb1
    go_wp2_with fail
    refine (rdeep4_any _ L _ (HL.out.on HB1.out) h40).mono ?_
    rintro e w2 ⟨rfl, hb2⟩
    go_wp2_with fail
    go_ret
    exact ⟨ret_int HN.out.symm, below_then HB1.out hb2⟩
end Go.Proofs.YtpeohfgadnfnpaaGreatDoor
/-
  DERIVED. Layer 3: the document's show at a leaf and behind a sign (leadlineref03).
-/
namespace Go.Proofs.YtpeohfgadnfnpaaGreatDoor
open Go.RowKit

def RShow (x : Ex) : Prop := ∀ (v : Value) (L : List Nod) (i : Nat) (r : List Nod) (b : Bool) (w : World), ReadN w v L → L.length ≤ 10000 → L.drop i = x.flat ++ r → Calls Tryz.prog 123 #[v, .int .i64 i, .bool b] w (GivesSB (showX b x) w)
theorem kept_one {W w1 w2 : World} {a : Nat} {u : Value} (ha : a < W.heap.size) (h : w1.cell? ⟨a, 0, none⟩ = some u ∧ Below W.heap.size W w1) (hb : Below w1.heap.size w1 w2) : w2.cell? ⟨a, 0, none⟩ = some u ∧ Below W.heap.size W w2 := by
  have hz := h.2.size
  exact ⟨(hb.cell (p := ⟨a, 0, none⟩) (by show a < _; omega)).trans h.1, below_then h.2 hb⟩

set_option maxRecDepth 100000 in
set_option maxHeartbeats 4000000 in
theorem rshow_leaf (a : Nod) (ho : (Ex.leaf a).ok) (hs : SmallX (.leaf a)) : RShow (.leaf a) := by
  intro v L i r b w h hl hd
  have hat : L[i]? = some a := lies_top hd
  have hil := lies_len hd
  obtain ⟨A, c, rfl, hc, hm, hr⟩ := h
  obtain ⟨g, o, rfl, hg, x0, x1, x2, x3⟩ := hr i a hat
  have hsm := hs a (by simp [Ex.flat])
  have hop : a.op = 1 ∨ a.op = 2 := by
    have h0 : takesN a.op = some 0 := ho
    unfold takesN at h0
    by_cases h1 : a.op = 1 ∨ a.op = 2
    · exact h1
    · rw [if_neg h1] at h0; split at h0 <;> simp at h0
  simp only [Ex.size] at hil
  have hlt : i < L.length := by omega
  clear hr hat hd
  obtain ⟨op, n, name, pl⟩ := a
  simp only at hop x0 x1 x2 x3 hsm
  rcases hop with rfl | rfl
  · have HS : Hid (showX b (.leaf ⟨1, n, name, pl⟩) = Lib.itoa n) := Lib.hid (by simp [showX])
    go_enter Tryz.func123, Tryz.ntmps123
    go_wp2_with fail
    refine (rtext_any _ n rfl (by omega) (by omega) _).mono ?_
    rintro e w1 ⟨rfl, hb⟩
    have HB := Lib.hid (below_box hb)
    clear hb
    go_wp2_with fail
    go_ret
    exact givesSB_of rfl HS.out.symm HB.out
  · have HS : Hid (showX b (.leaf ⟨2, n, name, pl⟩) = name) := Lib.hid (by simp [showX])
    go_enter Tryz.func123, Tryz.ntmps123
    go_wp2_with fail
    go_ret
    exact givesSB_of rfl HS.out.symm ((Below.refl _ _).alloc (Nat.le_refl _) _)

set_option maxRecDepth 100000 in
set_option maxHeartbeats 4000000 in
theorem rshow_un (a : Nod) (x : Ex) (ho : (Ex.un a x).ok) (hs : SmallX (.un a x)) (hz : x.size ≤ 40) (hx : RShow x) : RShow (.un a x) := by
  intro v L i r b w h hl hd
  have hat : L[i]? = some a := lies_top hd
  have hil := lies_len hd
  have HH := Lib.hid h
  obtain ⟨r1, hr1⟩ := kid_lies (x := .un a x) (y := x) (d := []) (r := []) hd rfl
  rw [show i + (1 + sizes []) = i + 1 from rfl] at hr1
  have HR1 := Lib.hid hr1
  obtain ⟨A, c, rfl, hc, hm, hr⟩ := h
  obtain ⟨g, o, rfl, hg, x0, x1, x2, x3⟩ := hr i a hat
  have hxl := show_len x true (fun c hc => hs c (by simp [Ex.flat, hc]))
  have HX := Lib.hid (show ∀ (v : Value) (L : List Nod) (i : Nat) (r : List Nod) (b : Bool) (w : World), ReadN w v L → L.length ≤ 10000 → L.drop i = x.flat ++ r → Calls Tryz.prog 123 #[v, .int .i64 i, .bool b] w (GivesSB (showX b x) w) from hx)
  have HK : Hid (takesV a.op = 1) := Lib.hid (takesV_some ho.1)
  have hop : a.op = 3 ∨ a.op = 4 := by
    have h0 : takesN a.op = some 1 := ho.1
    unfold takesN at h0
    by_cases h1 : a.op = 1 ∨ a.op = 2
    · rw [if_pos h1] at h0; simp at h0
    · rw [if_neg h1] at h0
      by_cases h2 : a.op = 3 ∨ a.op = 4
      · exact h2
      · rw [if_neg h2] at h0; split at h0 <;> simp at h0
  have hsl := sign_len a.op.toNat
  have HS : Hid (showX b (.un a x) = signT a.op.toNat ++ showX true x) := Lib.hid rfl
  have hlt : i < L.length := by simp only [Ex.size] at hil; omega
  clear hr hat hd hr1 hx hil
  obtain ⟨op, n, name, pl⟩ := a
  simp only at hop x0 x1 x2 x3 hsl HK HS
  have hop3 : 3 ≤ op ∧ op ≤ 15 := by omega
  have e1 : (op == 1) = false := beq_eq_false_iff_ne.2 (by omega)
  have e2 : (op == 2) = false := beq_eq_false_iff_ne.2 (by omega)
  clear hop
  generalize hsg : signT op.toNat = sg at *
  have HSG := Lib.hid hsg
  generalize hsx : showX true x = sx at *
  have HSX := Lib.hid hsx
  clear hsg hsx
  go_enter Tryz.func123, Tryz.ntmps123
  go_wp2_with fail
  refine (rkids_any _ _).mono ?_
  rw [HK.out]
  rintro e w' ⟨rfl, rfl⟩
  go_wp2_with fail
  refine (rsign3_any op hop3.1 hop3.2 _).mono ?_
  rw [HSG.out]
  rintro e w1 ⟨rfl, hb⟩
  have HB := Lib.hid (below_box hb)
  clear hb
  go_wp2_with fail
  refine (HX.out _ L (i + 1) r1 true _ (HH.out.on HB.out) hl HR1.out).mono ?_
  rw [HSX.out]
  rintro e w2 ⟨rfl, hb⟩
  replace HB := Lib.hid (below_then HB.out hb)
  clear hb
  go_wp2_with fail
  go_ret
  exact givesSB_of (by rw [← str_app]; rfl) HS.out.symm HB.out

end Go.Proofs.YtpeohfgadnfnpaaGreatDoor
/-
  DERIVED. Layer 3: the document's show at an operator between two parts; its Show and Depth (leadlineref03).
-/
namespace Go.Proofs.YtpeohfgadnfnpaaGreatDoor
open Go.RowKit

set_option maxRecDepth 100000 in
set_option maxHeartbeats 8000000 in
theorem rshow_bin (a : Nod) (x y : Ex) (ho : (Ex.bin a x y).ok) (hs : SmallX (.bin a x y)) (hz : x.size + y.size ≤ 40) (hx : RShow x) (hy : RShow y) : RShow (.bin a x y) := by
  intro v L i r b w h hl hd
  have hat : L[i]? = some a := lies_top hd
  have hil := lies_len hd
  have HH := Lib.hid h
  obtain ⟨r1, hr1⟩ := kid_lies (x := .bin a x y) (y := x) (d := []) (r := [y]) hd rfl
  obtain ⟨r2, hr2⟩ := kid_lies (x := .bin a x y) (y := y) (d := [x]) (r := []) hd rfl
  rw [show i + (1 + sizes []) = i + 1 from rfl] at hr1
  rw [show i + (1 + sizes [x]) = i + 1 + x.size from by simp [sizes]; omega] at hr2
  have HE := Lib.hid (lies_end hr1 ho.2.1)
  have HR1 := Lib.hid hr1
  have HR2 := Lib.hid hr2
  obtain ⟨A, c, rfl, hc, hm, hr⟩ := h
  obtain ⟨g, o, rfl, hg, x0, x1, x2, x3⟩ := hr i a hat
  have hxl := show_len x true (fun c hc => hs c (by simp [Ex.flat, hc]))
  have hyl := show_len y true (fun c hc => hs c (by simp [Ex.flat, hc]))
  have HX := Lib.hid (show ∀ (v : Value) (L : List Nod) (i : Nat) (r : List Nod) (b : Bool) (w : World), ReadN w v L → L.length ≤ 10000 → L.drop i = x.flat ++ r → Calls Tryz.prog 123 #[v, .int .i64 i, .bool b] w (GivesSB (showX b x) w) from hx)
  have HY := Lib.hid (show ∀ (v : Value) (L : List Nod) (i : Nat) (r : List Nod) (b : Bool) (w : World), ReadN w v L → L.length ≤ 10000 → L.drop i = y.flat ++ r → Calls Tryz.prog 123 #[v, .int .i64 i, .bool b] w (GivesSB (showX b y) w) from hy)
  have HK : Hid (takesV a.op = 2) := Lib.hid (takesV_some ho.1)
  have hop : 5 ≤ a.op ∧ a.op ≤ 15 := by
    have h0 : takesN a.op = some 2 := ho.1
    unfold takesN at h0
    by_cases h1 : a.op = 1 ∨ a.op = 2
    · rw [if_pos h1] at h0; simp at h0
    · rw [if_neg h1] at h0
      by_cases h2 : a.op = 3 ∨ a.op = 4
      · rw [if_pos h2] at h0; simp at h0
      · rw [if_neg h2] at h0
        by_cases h3 : 5 ≤ a.op ∧ a.op ≤ 15
        · exact h3
        · rw [if_neg h3] at h0; simp at h0
  have hsl := sign_len a.op.toNat
  have HS : Hid (showX b (.bin a x y) = if b = true then [40] ++ (showX true x ++ [32] ++ signT a.op.toNat ++ [32] ++ showX true y) ++ [41] else showX true x ++ [32] ++ signT a.op.toNat ++ [32] ++ showX true y) := Lib.hid rfl
  have hlt : i < L.length := by simp only [Ex.size] at hil; omega
  have hie : i + 1 + x.size ≤ 10000 := by simp only [Ex.size] at hil; omega
  clear hr hat hd hr1 hr2 hx hy hil
  obtain ⟨op, n, name, pl⟩ := a
  simp only at hop x0 x1 x2 x3 hsl HK HS
  have hop3 : 3 ≤ op ∧ op ≤ 15 := by omega
  have e1 : (op == 1) = false := beq_eq_false_iff_ne.2 (by omega)
  have e2 : (op == 2) = false := beq_eq_false_iff_ne.2 (by omega)
  clear hop
  generalize hsg : signT op.toNat = sg at *
  have HSG := Lib.hid hsg
  generalize hsx : showX true x = ox at *
  have HSX := Lib.hid hsx
  generalize hsy : showX true y = oy at *
  have HSY := Lib.hid hsy
  clear hsg hsx hsy
  generalize hq : i + 1 + x.size = q at *
  have HQ := Lib.hid hq
  clear hq
  go_enter Tryz.func123, Tryz.ntmps123
  go_wp2_with fail
  refine (rkids_any _ _).mono ?_
  rw [HK.out]
  rintro e w' ⟨rfl, rfl⟩
  go_wp2_with fail
  have HB0 : Hid (Below w.heap.size w (w.alloc (.cells #[.int .i64 op, .int .i64 n, .string ⟨name.toArray⟩, .int .i64 pl] 33))) := Lib.hid ((Below.refl _ _).alloc (Nat.le_refl _) _)
  have y0 : (w.alloc (.cells #[.int .i64 op, .int .i64 n, .string ⟨name.toArray⟩, .int .i64 pl] 33)).cell? ⟨w.heap.size, 0, none⟩ = some (.int .i64 op) := by simp
  have hW : w.heap.size < (w.alloc (.cells #[.int .i64 op, .int .i64 n, .string ⟨name.toArray⟩, .int .i64 pl] 33)).heap.size := by simp
  clear x0 x1 x2 x3
  generalize w.alloc (.cells #[.int .i64 op, .int .i64 n, .string ⟨name.toArray⟩, .int .i64 pl] 33) = W at *
  have HRW := Lib.hid (HH.out.on HB0.out)
  have hcat1 : ¬ (9223372036854775807 < ox.length + 1) := by omega
  have hcat2 : ¬ (9223372036854775807 < ox.length + 1 + sg.length) := by omega
  have hcat3 : ¬ (9223372036854775807 < ox.length + 1 + sg.length + 1) := by omega
  have hcat4 : ¬ (9223372036854775807 < ox.length + 1 + sg.length + 1 + oy.length) := by omega
  have z1 : IntKind.i64.wrap ((i : Int) + 1) = (i : Int) + 1 := IntWalk.i64_in _ (by omega)
  go_region_held3 (fun w' => w'.cell? ⟨w.heap.size, 0, none⟩ = some (.int .i64 op) ∧ Below W.heap.size W w')
    (first | exact ⟨y0, Below.refl _ _⟩ | exact ⟨y0, below_drT _⟩ | exact kept_one (w1 := W.drew) hW ⟨y0, below_drT _⟩ hb | exact kept_one hW (kept_one (w1 := W.drew) hW ⟨y0, below_drT _⟩ hb) hb2 | exact kept_one hW (kept_one hW (kept_one (w1 := W.drew) hW ⟨y0, below_drT _⟩ hb) hb2) hb3)
    (first
      | (go_at_call 123; refine (HY.out _ L q r2 true _ (HRW.out.on (below_then (below_then (below_drT _) hb) hb2)) hl HR2.out).mono ?_; rw [HSY.out]; rintro e w3 ⟨rfl, hb3⟩)
      | (go_at_call 91; refine (rend_any _ L (i + 1 : Nat) _ (HRW.out.on (below_then (below_then (below_drT _) hb) hb2)) hl).mono ?_; rw [HE.out]; rintro e w9 ⟨rfl, rfl⟩)
      | (go_at_call 139; refine (rsign3_any op hop3.1 hop3.2 _).mono ?_; rw [HSG.out]; rintro e w2 ⟨rfl, hb2⟩)
      | (go_at_call 123; refine (HX.out _ L (i + 1) r1 true _ (HRW.out.on (below_drT _)) hl HR1.out).mono ?_; rw [HSX.out]; rintro e w1 ⟨rfl, hb⟩))
  all_goals
    have HBX := Lib.hid (below_then HB0.out (below_then (below_drT _) (below_then hb (below_then hb2 hb3))))
    clear hb hb2 hb3 z1 y0
    cases b with
    | true =>
      go_wp2_with fail
      go_ret
      exact givesSB_of (l' := [40] ++ (ox ++ [32] ++ sg ++ [32] ++ oy) ++ [41]) (by rw [← str_app, ← str_app, ← str_app, ← str_app, ← str_app, ← str_app]; rfl) (HS.out.trans (by simp)).symm HBX.out
    | false =>
      go_wp2_with fail
      go_ret
      exact givesSB_of (l' := ox ++ [32] ++ sg ++ [32] ++ oy) (by rw [← str_app, ← str_app, ← str_app, ← str_app]; rfl) (HS.out.trans (by simp)).symm HBX.out

theorem rshow_all : ∀ (n : Nat) (x : Ex), x.size ≤ n → x.size ≤ 40 → x.ok → SmallX x → RShow x := by
  intro n
  induction n with
  | zero => intro x h; have := size_pos x; omega
  | succ n ih =>
    intro x h h40 ho hs
    cases x with
    | leaf a => exact rshow_leaf a ho hs
    | un a y =>
      simp only [Ex.size] at h h40
      exact rshow_un a y ho hs (by omega) (ih y (by omega) (by omega) ho.2 (small_kid hs (by simp [Ex.kids])))
    | bin a y z =>
      simp only [Ex.size] at h h40
      exact rshow_bin a y z ho hs (by omega) (ih y (by omega) (by omega) ho.2.1 (small_kid hs (by simp [Ex.kids]))) (ih z (by omega) (by omega) ho.2.2 (small_kid hs (by simp [Ex.kids])))

set_option maxRecDepth 100000 in
set_option maxHeartbeats 4000000 in
theorem rShow_any (v : Value) (L : List Nod) (w : World) (h : ReadN w v L) (hl : L.length ≤ 10000) (hs : SmallN L) : Calls Tryz.prog 98 #[v] w (GivesSB (shownL L) w) := by
  have HR := Lib.hid h
  have HS := Lib.hid hs
  clear h hs
  cases hr : rightL L with
  | false =>
    have HQ := Lib.hid (shown_no hr)
    have HF := Lib.hid hr
    clear hr
    go_enter Tryz.func98, Tryz.ntmps98
    go_wp2_with fail
    refine (rright_any v L _ HR.out hl HS.out).mono ?_
    rw [HF.out]
    rintro e w1 ⟨rfl, hb⟩
    go_wp2_with fail
    go_ret
    exact givesSB_of (l' := []) rfl HQ.out.symm hb
  | true =>
    obtain ⟨x, hw, ho, hf, h40, hall, hd⟩ := right_some hr
    have HQ : Hid (shownL L = showX false x) := Lib.hid (by unfold shownL; rw [hw]; simp [hr])
    have HX : Hid (RShow x) := Lib.hid (rshow_all x.size x (Nat.le_refl _) (by rw [← flat_len, ← hf]; exact h40) ho (small_all (by rw [← hf]; exact hall)))
    have HD : Hid (L.drop 0 = x.flat ++ []) := Lib.hid (by rw [← hf]; simp)
    have HF := Lib.hid hr
    clear hr hw ho hf hall
    go_enter Tryz.func98, Tryz.ntmps98
    go_wp2_with fail
    refine (rright_any v L _ HR.out hl HS.out).mono ?_
    rw [HF.out]
    rintro e w1 ⟨rfl, hb⟩
    have HB := Lib.hid hb
    clear hb
    go_wp2_with fail
    refine (HX.out v L 0 [] false _ (HR.out.on HB.out) hl HD.out).mono ?_
    rintro e w2 ⟨rfl, hb⟩
    go_wp2_with fail
    go_ret
    exact givesSB_of rfl HQ.out.symm (below_then HB.out hb)

end Go.Proofs.YtpeohfgadnfnpaaGreatDoor
