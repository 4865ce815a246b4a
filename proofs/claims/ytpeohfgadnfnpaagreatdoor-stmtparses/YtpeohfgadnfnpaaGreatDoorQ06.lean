/-
  DERIVED. Texts of the walk, packed: Text, Alike.
-/
import Derived.Test.YtpeohfgadnfnpaaGreatDoorQ05
import Derived.Deep.RegionHeld3
import Derived.Deep.DrawnRows
/-
  DERIVED. Layer 3: contracts of expr.text, expr.operand, expr.Show and expr.Depth.
-/
namespace Go.Proofs.YtpeohfgadnfnpaaGreatDoor
open Go.RowKit

/-- What expr.operand says of an expression, and expr.text. -/
def OpSays (x : Ex) : Prop := ∀ (v : Value) (w : World), ReadN w v x.flat → Tabs w → Calls Tryz.prog 137 #[v] w (GivesSB (showX true x) w)
def TextSays (x : Ex) : Prop := ∀ (v : Value) (w : World), ReadN w v x.flat → Tabs w → Calls Tryz.prog 121 #[v] w (GivesSB (showX false x) w)
theorem read_top {w : World} {g o n c : Nat} {x : Ex} (h : ReadN w (.slice (some ⟨g, o, none⟩) n c) x.flat) : g < w.heap.size ∧ w.cell? ⟨g, o, none⟩ = some (.int .i64 x.top.op) ∧ w.cell? ⟨g, o + 1, none⟩ = some (.int .i64 x.top.n) ∧ w.cell? ⟨g, o + 2, none⟩ = some (.string ⟨x.top.name.toArray⟩) ∧ w.cell? ⟨g, o + 3, none⟩ = some (.int .i64 x.top.pl) := by
  obtain ⟨A, c', hv, _, _, hr⟩ := h
  simp only [Value.slice.injEq] at hv
  obtain ⟨rfl, _, _⟩ := hv
  obtain ⟨g', o', hA, hg, x0, x1, x2, x3⟩ := hr 0 x.top (by rw [flat_kids]; rfl)
  simp only [Option.some.injEq, Addr.mk.injEq] at hA
  obtain ⟨rfl, rfl, _⟩ := hA
  simp only [Nat.zero_mul, Nat.add_zero] at x0 x1 x2 x3
  exact ⟨hg, x0, x1, x2, x3⟩
/-- What stays while a text is put together. -/
theorem kept_cells {W w1 w2 : World} {a b : Nat} {u v : Value} {k : Nat} (ha : a < W.heap.size) (hb0 : b < W.heap.size) (h : w1.cell? ⟨a, 0, none⟩ = some u ∧ w1.cell? ⟨b, k, none⟩ = some v ∧ Below W.heap.size W w1) (hb : Below w1.heap.size w1 w2) :
    w2.cell? ⟨a, 0, none⟩ = some u ∧ w2.cell? ⟨b, k, none⟩ = some v ∧ Below W.heap.size W w2 := by
  have hz := h.2.2.size
  exact ⟨(hb.cell (p := ⟨a, 0, none⟩) (by show a < _; omega)).trans h.1, (hb.cell (p := ⟨b, k, none⟩) (by show b < _; omega)).trans h.2.1, below_then h.2.2 hb⟩
theorem below_drT (w : World) : Below w.heap.size w w.drew := ⟨rfl, rfl, rfl, Nat.le_refl _, fun _ _ => rfl⟩
theorem size_mk (l : List UInt8) : (ByteArray.mk l.toArray).size = l.length := by show l.toArray.size = _; simp
theorem str_app (a b : List UInt8) : (ByteArray.mk a.toArray ++ ByteArray.mk b.toArray) = ByteArray.mk (a ++ b).toArray := by
  apply ByteArray.ext; simp

set_option maxRecDepth 100000 in
set_option maxHeartbeats 2000000 in
theorem text_leaf (a : Nod) (ho : (Ex.leaf a).ok) (hs : SmallX (.leaf a)) : TextSays (.leaf a) := by
  intro v w h ht
  obtain ⟨g, o, c, rfl, hc, hm, _⟩ := h.addr (flat_ne _)
  obtain ⟨hg, x0, x1, x2, x3⟩ := read_top h
  have hsm := hs a (by simp [Ex.flat])
  have HT := Lib.hid ht
  have HK : Hid (takesV a.op = 0) := Lib.hid (takesV_some ho)
  have hop := takes_op ho
  simp only [Ex.top, Ex.flat, List.length_singleton] at *
  clear h ht
  cases e1 : (a.op == 1) with
  | true =>
    have HS : Hid (showX false (.leaf a) = Lib.itoa a.n) := Lib.hid (by simp at e1; simp [showX, e1])
    go_enter Tryz.func121, Tryz.ntmps121
    go_wp2_with fail
    refine (takes_any _ _).mono ?_
    rw [HK.out]
    rintro e w' ⟨rfl, rfl⟩
    go_wp2_with fail
    refine (wtext_any a.n (by omega) (by omega) _ (HT.out.alloc _)).mono ?_
    rintro e w1 ⟨rfl, hb⟩
    have HB := Lib.hid (below_box hb)
    clear hb
    go_wp2_with fail
    go_ret
    exact givesSB_of rfl HS.out.symm HB.out
  | false =>
    have HS : Hid (showX false (.leaf a) = a.name) := Lib.hid (by simp at e1; simp [showX, e1])
    go_enter Tryz.func121, Tryz.ntmps121
    go_wp2_with fail
    refine (takes_any _ _).mono ?_
    rw [HK.out]
    rintro e w' ⟨rfl, rfl⟩
    go_wp2_with fail
    go_ret
    exact givesSB_of rfl HS.out.symm ((Below.refl _ _).alloc (Nat.le_refl _) _)

set_option maxRecDepth 100000 in
set_option maxHeartbeats 4000000 in
theorem text_un (a : Nod) (x : Ex) (ho : (Ex.un a x).ok) (hs : SmallX (.un a x)) (hz : (Ex.un a x).size ≤ 40) (hx : OpSays x) : TextSays (.un a x) := by
  intro v w h ht
  obtain ⟨g, o, c, rfl, hc, hm, _⟩ := h.addr (flat_ne _)
  obtain ⟨hg, x0, x1, x2, x3⟩ := read_top h
  have HT := Lib.hid ht
  have HK : Hid (takesV a.op = 1) := Lib.hid (takesV_some ho.1)
  have hop := takes_op ho.1
  have HL := Lib.hid (flat_len (.un a x))
  have HX := Lib.hid hx
  have hxl := show_len x true (fun b hb => hs b (by simp [Ex.flat, hb]))
  have hp := size_pos x
  have HP : Hid (ReadN w (.slice (some ⟨g, o + 4, none⟩) x.size (c - 1)) x.flat) := Lib.hid (by
    have hq := ReadN.part (k := 1) (to := x.size + 1) h (by omega) (by rw [HL.out]; exact Nat.le_refl _)
    have e := kid_part (x := .un a x) (y := x) (d := []) (r := []) rfl
    rw [show 1 + sizes [] + x.size = x.size + 1 from by simp [sizes]; omega, show 1 + sizes [] = 1 from rfl] at e
    rw [e, show x.size + 1 - 1 = x.size from by omega] at hq
    exact hq)
  obtain ⟨op, n, name, pl⟩ := a
  simp only [Ex.top] at *
  obtain ⟨k, rfl⟩ : ∃ k : Nat, op = k := ⟨op.toNat, by omega⟩
  have HS : Hid (showX false (.un ⟨k, n, name, pl⟩ x) = signT k ++ showX true x) := Lib.hid (by simp [showX])
  have hsg := ht.sign (k := k) (by omega)
  have hsl := sign_len k
  have htl := ht.lt
  rw [HL.out] at hc ⊢
  simp only [Ex.size] at hz hc ⊢
  clear h ht hx
  generalize signT k = sg at *
  unfold maxLen at hm
  go_enter Tryz.func121, Tryz.ntmps121
  go_wp2_with fail
  refine (takes_any _ _).mono ?_
  rw [HK.out]
  rintro e w' ⟨rfl, rfl⟩
  go_wp2_with fail
  have HB0 : Hid (Below w.heap.size w (w.alloc (.cells #[.int .i64 k, .int .i64 n, .string ⟨name.toArray⟩, .int .i64 pl] 33))) := Lib.hid ((Below.refl _ _).alloc (Nat.le_refl _) _)
  have y0 : (w.alloc (.cells #[.int .i64 k, .int .i64 n, .string ⟨name.toArray⟩, .int .i64 pl] 33)).cell? ⟨w.heap.size, 0, none⟩ = some (.int .i64 k) := by simp
  have y1 : (w.alloc (.cells #[.int .i64 k, .int .i64 n, .string ⟨name.toArray⟩, .int .i64 pl] 33)).cell? ⟨5, k, none⟩ = some (.string ⟨sg.toArray⟩) := by rw [World.cell?_alloc_lt w _ _ (by show 5 < _; omega)]; exact hsg
  have hW : w.heap.size < (w.alloc (.cells #[.int .i64 k, .int .i64 n, .string ⟨name.toArray⟩, .int .i64 pl] 33)).heap.size := by simp
  clear x0 x1 x2 x3 hsg
  generalize w.alloc (.cells #[.int .i64 k, .int .i64 n, .string ⟨name.toArray⟩, .int .i64 pl] 33) = W at *
  have hi0 : (0 : Int) ≤ (k : Int) := by omega
  have hi1 : (k : Int) < 16 := by omega
  have hi2 : (1 : Int) ≤ (x.size : Int) + 1 := by omega
  have hi3 : ((x.size + 1 : Nat) : Int) ≤ (c : Int) := by omega
  have hr1 := HP.out.on HB0.out
  have hr2 := HT.out.on HB0.out
  have HR1 := Lib.hid hr1
  have HR2 := Lib.hid hr2
  clear hr1 hr2
  have h0W : 5 < W.heap.size := by omega
  have hc1 : ¬ c = 1 := by omega
  have hcat1 : ¬ (9223372036854775807 < (ByteArray.mk sg.toArray).size + (ByteArray.mk (showX true x).toArray).size) := by rw [size_mk, size_mk]; omega
  have hcat4 : ¬ (9223372036854775807 < sg.length + (showX true x).length) := by omega
  go_region_held3 (fun w' => w'.cell? ⟨w.heap.size, 0, none⟩ = some (.int .i64 k) ∧ w'.cell? ⟨5, k, none⟩ = some (.string ⟨sg.toArray⟩) ∧ Below W.heap.size W w')
    (first | exact ⟨y0, y1, Below.refl _ _⟩ | exact ⟨y0, y1, below_drT _⟩ | exact kept_cells (w1 := W.drew) hW h0W ⟨y0, y1, below_drT _⟩ hb | go_keep)
    (first | (go_at_call 137; refine (HX.out _ _ (HR1.out.on (below_drT _)) (HR2.out.on (below_drT _))).mono ?_; rintro e w1 ⟨rfl, hb⟩))
  go_wp2_with fail
  go_ret
  exact givesSB_of (by rw [← str_app]; rfl) HS.out.symm (below_then HB0.out (below_then (below_drT _) hb))

set_option maxRecDepth 100000 in
set_option maxHeartbeats 4000000 in
theorem text_bin (a : Nod) (x y : Ex) (ho : (Ex.bin a x y).ok) (hs : SmallX (.bin a x y)) (hz : (Ex.bin a x y).size ≤ 40) (hx : OpSays x) (hy : OpSays y) : TextSays (.bin a x y) := by
  intro v w h ht
  obtain ⟨g, o, c, rfl, hc, hm, _⟩ := h.addr (flat_ne _)
  obtain ⟨hg, x0, x1, x2, x3⟩ := read_top h
  have HT := Lib.hid ht
  have HK : Hid (takesV a.op = 2) := Lib.hid (takesV_some ho.1)
  have hop := takes_op ho.1
  have HL := Lib.hid (flat_len (.bin a x y))
  have HX := Lib.hid (show ∀ (v : Value) (w : World), ReadN w v x.flat → Tabs w → Calls Tryz.prog 137 #[v] w (GivesSB (showX true x) w) from hx)
  have HY := Lib.hid (show ∀ (v : Value) (w : World), ReadN w v y.flat → Tabs w → Calls Tryz.prog 137 #[v] w (GivesSB (showX true y) w) from hy)
  have hxl := show_len x true (fun b hb => hs b (by simp [Ex.flat, hb]))
  have hyl := show_len y true (fun b hb => hs b (by simp [Ex.flat, hb]))
  have hp := size_pos x
  have hq := size_pos y
  obtain ⟨s, hsd⟩ : ∃ s, 1 + x.size = s := ⟨_, rfl⟩
  obtain ⟨N, hN⟩ : ∃ N, (Ex.bin a x y).size = N := ⟨_, rfl⟩
  have hNs : N = s + y.size := by rw [← hN, ← hsd]; simp only [Ex.size]; omega
  have HE : Hid (endV (Ex.bin a x y).flat 1 = (s : Int)) := Lib.hid (by rw [← hsd]; exact kid_end (x := .bin a x y) (y := x) (d := []) (r := [y]) rfl ho.2.1)
  have HPX : Hid (ReadN w (.slice (some ⟨g, o + 4, none⟩) (s - 1) (c - 1)) x.flat) := Lib.hid (by
    have hq := ReadN.part (k := 1) (to := s) h (by omega) (by rw [HL.out, hN]; omega)
    have e := kid_part (x := .bin a x y) (y := x) (d := []) (r := [y]) rfl
    rw [show 1 + sizes [] + x.size = s from by rw [← hsd]; rfl, show 1 + sizes [] = 1 from rfl] at e
    rw [e] at hq
    exact hq)
  have HPY : Hid (ReadN w (.slice (some ⟨g, o + s * 4, none⟩) (N - s) (c - s)) y.flat) := Lib.hid (by
    have hq := ReadN.part (k := s) (to := N) h (by omega) (by rw [HL.out, hN]; exact Nat.le_refl _)
    have e := kid_part (x := .bin a x y) (y := y) (d := [x]) (r := []) rfl
    rw [show 1 + sizes [x] = s from by rw [← hsd]; simp [sizes], ← hNs] at e
    rw [e] at hq
    exact hq)
  have hs2 : 2 ≤ s := by omega
  have hsN : s < N := by omega
  have hNl : N ≤ 40 := by omega
  rw [hN] at HL hz
  have hxl2 : (showX true x).length ≤ 1000 := by omega
  have hyl2 : (showX true y).length ≤ 1000 := by omega
  clear hxl hyl hp hq hN hsd hNs hz
  obtain ⟨op, n, name, pl⟩ := a
  simp only [Ex.top] at *
  obtain ⟨k, rfl⟩ : ∃ k : Nat, op = k := ⟨op.toNat, by omega⟩
  have HS : Hid (showX false (.bin ⟨k, n, name, pl⟩ x y) = showX true x ++ [32] ++ signT k ++ [32] ++ showX true y) := Lib.hid (by simp [showX])
  have hsg := ht.sign (k := k) (by omega)
  have hsl := sign_len k
  have htl := ht.lt
  have HR := Lib.hid h
  rw [HL.out] at hc HR ⊢
  clear h ht hx hy hs ho
  generalize signT k = sg at *
  generalize showX true x = ox at *
  generalize showX true y = oy at *
  unfold maxLen at hm
  go_enter Tryz.func121, Tryz.ntmps121
  go_wp2_with fail
  refine (takes_any _ _).mono ?_
  rw [HK.out]
  rintro e w' ⟨rfl, rfl⟩
  go_wp2_with fail
  have HB0 : Hid (Below w.heap.size w (w.alloc (.cells #[.int .i64 k, .int .i64 n, .string ⟨name.toArray⟩, .int .i64 pl] 33))) := Lib.hid ((Below.refl _ _).alloc (Nat.le_refl _) _)
  have y0 : (w.alloc (.cells #[.int .i64 k, .int .i64 n, .string ⟨name.toArray⟩, .int .i64 pl] 33)).cell? ⟨w.heap.size, 0, none⟩ = some (.int .i64 k) := by simp
  have y1 : (w.alloc (.cells #[.int .i64 k, .int .i64 n, .string ⟨name.toArray⟩, .int .i64 pl] 33)).cell? ⟨5, k, none⟩ = some (.string ⟨sg.toArray⟩) := by rw [World.cell?_alloc_lt w _ _ (by show 5 < _; omega)]; exact hsg
  have hW : w.heap.size < (w.alloc (.cells #[.int .i64 k, .int .i64 n, .string ⟨name.toArray⟩, .int .i64 pl] 33)).heap.size := by simp
  clear x0 x1 x2 x3 hsg
  generalize w.alloc (.cells #[.int .i64 k, .int .i64 n, .string ⟨name.toArray⟩, .int .i64 pl] 33) = W at *
  refine (end_any _ _ 1 _ (HR.out.on HB0.out) (by rw [HL.out]; omega)).mono ?_
  rw [HE.out]
  rintro e w' ⟨rfl, rfl⟩
  go_wp2_with fail
  have HRX := Lib.hid (HPX.out.on HB0.out)
  have HRY := Lib.hid (HPY.out.on HB0.out)
  have HRT := Lib.hid (HT.out.on HB0.out)
  have hi0 : (0 : Int) ≤ (k : Int) := by omega
  have hi1 : (k : Int) < 16 := by omega
  have h0W : 5 < W.heap.size := by omega
  have hc1 : ¬ c = 1 := by omega
  have hc2 : ¬ c = s := by omega
  have hi2 : (1 : Int) ≤ (s : Int) := by omega
  have hi3 : (s : Int) ≤ (c : Int) := by omega
  have hi4 : (s : Int) ≤ (N : Int) := by omega
  have hi5 : (N : Int) ≤ (c : Int) := by omega
  have hi6 : (0 : Int) ≤ (s : Int) := by omega
  have hcat1 : ¬ (9223372036854775807 < ox.length + 1) := by omega
  have hcat2 : ¬ (9223372036854775807 < ox.length + 1 + sg.length) := by omega
  have hcat3 : ¬ (9223372036854775807 < ox.length + 1 + sg.length + 1) := by omega
  have hcat4 : ¬ (9223372036854775807 < ox.length + 1 + sg.length + 1 + oy.length) := by omega
  go_region_held3 (fun w' => w'.cell? ⟨w.heap.size, 0, none⟩ = some (.int .i64 k) ∧ w'.cell? ⟨5, k, none⟩ = some (.string ⟨sg.toArray⟩) ∧ Below W.heap.size W w')
    (first | exact ⟨y0, y1, Below.refl _ _⟩ | exact ⟨y0, y1, below_drT _⟩ | exact kept_cells (w1 := W.drew) hW h0W ⟨y0, y1, below_drT _⟩ hb | exact kept_cells hW h0W (kept_cells (w1 := W.drew) hW h0W ⟨y0, y1, below_drT _⟩ hb) hb2)
    (first
      | (go_at_call 137; refine (HY.out _ _ (HRY.out.on (below_then (below_drT _) hb)) (HRT.out.on (below_then (below_drT _) hb))).mono ?_; rintro e w2 ⟨rfl, hb2⟩)
      | (go_at_call 137; refine (HX.out _ _ (HRX.out.on (below_drT _)) (HRT.out.on (below_drT _))).mono ?_; rintro e w1 ⟨rfl, hb⟩))
  all_goals
    go_wp2_with fail
    go_ret
    exact givesSB_of (by rw [← str_app, ← str_app, ← str_app, ← str_app]; rfl) HS.out.symm (below_then HB0.out (below_then (below_drT _) (below_then hb hb2)))

set_option maxRecDepth 100000 in
set_option maxHeartbeats 2000000 in
theorem op_of_text (x : Ex) (ho : x.ok) (hs : SmallX x) (hz : x.size ≤ 40) (hx : TextSays x) : OpSays x := by
  intro v w h ht
  obtain ⟨g, o, c, rfl, hc, hm, _⟩ := h.addr (flat_ne _)
  obtain ⟨hg, x0, x1, x2, x3⟩ := read_top h
  have HR := Lib.hid h
  have HT := Lib.hid ht
  have HX := Lib.hid (show ∀ (v : Value) (w : World), ReadN w v x.flat → Tabs w → Calls Tryz.prog 121 #[v] w (GivesSB (showX false x) w) from hx)
  have hl := show_len x false hs
  have hp := size_pos x
  have HK := Lib.hid (takesV_some (ok_kids ho).2)
  rw [flat_len] at hc HR ⊢
  clear h ht hx
  generalize hsz : x.size = N at *
  clear hsz
  cases x with
  | leaf a =>
    have HS : Hid (showX true (.leaf a) = showX false (.leaf a)) := Lib.hid rfl
    simp only [Ex.top, Ex.kids, List.length_nil] at *
    go_enter Tryz.func137, Tryz.ntmps137
    go_wp2_with fail
    refine (takes_any _ _).mono ?_
    rw [HK.out]
    rintro e w' ⟨rfl, rfl⟩
    go_wp2_with fail
    refine (HX.out _ _ HR.out HT.out).mono ?_
    rintro e w1 ⟨rfl, hb⟩
    go_wp2_with fail
    go_ret
    exact givesSB_of rfl HS.out.symm hb
  | un a y =>
    have HS : Hid (showX true (.un a y) = showX false (.un a y)) := Lib.hid rfl
    simp only [Ex.top, Ex.kids, List.length_cons, List.length_nil] at *
    go_enter Tryz.func137, Tryz.ntmps137
    go_wp2_with fail
    refine (takes_any _ _).mono ?_
    rw [HK.out]
    rintro e w' ⟨rfl, rfl⟩
    go_wp2_with fail
    refine (HX.out _ _ HR.out HT.out).mono ?_
    rintro e w1 ⟨rfl, hb⟩
    go_wp2_with fail
    go_ret
    exact givesSB_of rfl HS.out.symm hb
  | bin a y z =>
    have HS : Hid (showX true (.bin a y z) = [40] ++ showX false (.bin a y z) ++ [41]) := Lib.hid (by simp [showX])
    simp only [Ex.top, Ex.kids, List.length_cons, List.length_nil] at *
    generalize showX false (.bin a y z) = l at *
    generalize showX true (.bin a y z) = l2 at *
    go_enter Tryz.func137, Tryz.ntmps137
    go_wp2_with fail
    refine (takes_any _ _).mono ?_
    rw [HK.out]
    rintro e w' ⟨rfl, rfl⟩
    go_wp2_with fail
    refine (HX.out _ _ HR.out HT.out).mono ?_
    rintro e w1 ⟨rfl, hb⟩
    go_wp2_with fail
    go_ret
    exact givesSB_of (by rw [← str_app, ← str_app]; rfl) HS.out.symm hb
theorem small_kid {x y : Ex} (h : SmallX x) (hy : y ∈ x.kids) : SmallX y := by
  intro a ha
  refine h a ?_
  rw [flat_kids]
  exact List.mem_cons_of_mem _ (List.mem_flatMap.2 ⟨y, hy, ha⟩)
theorem text_says : ∀ (n : Nat) (x : Ex), x.size ≤ n → n ≤ 40 → x.ok → SmallX x → TextSays x := by
  intro n
  induction n with
  | zero => intro x h; have := size_pos x; omega
  | succ n ih =>
    intro x hz hn ho hs
    cases x with
    | leaf a => exact text_leaf a ho hs
    | un a y =>
      simp only [Ex.size] at hz
      have hy : SmallX y := small_kid hs (by simp [Ex.kids])
      exact text_un a y ho hs (by simp only [Ex.size]; omega) (op_of_text y ho.2 hy (by omega) (ih y (by omega) (by omega) ho.2 hy))
    | bin a y z =>
      simp only [Ex.size] at hz
      have p1 := size_pos y
      have p2 := size_pos z
      have hy : SmallX y := small_kid hs (by simp [Ex.kids])
      have hz' : SmallX z := small_kid hs (by simp [Ex.kids])
      exact text_bin a y z ho hs (by simp only [Ex.size]; omega) (op_of_text y ho.2.1 hy (by omega) (ih y (by omega) (by omega) ho.2.1 hy)) (op_of_text z ho.2.2 hz' (by omega) (ih z (by omega) (by omega) ho.2.2 hz'))
theorem small_nod {a : Nod} (h : nodOK a = true) : a.name.length ≤ 16 ∧ 0 ≤ a.n ∧ a.n ≤ 4294967296 := by
  unfold nodOK at h
  simp only [Bool.and_eq_true, decide_eq_true_eq] at h
  obtain ⟨_, h⟩ := h
  split at h
  · simp only [Bool.and_eq_true, decide_eq_true_eq, List.isEmpty_iff] at h
    rw [h.2]; simp; omega
  · split at h
    · simp only [Bool.and_eq_true, decide_eq_true_eq, nameB] at h
      omega
    · simp only [Bool.and_eq_true, decide_eq_true_eq, List.isEmpty_iff] at h
      rw [h.2]; simp; omega
theorem small_all {x : Ex} (h : x.flat.all nodOK = true) : SmallX x := by
  intro a ha
  exact small_nod (List.all_eq_true.1 h a ha)
/-- What is shown of nodes; how deep they are. -/
def shownL (L : List Nod) : List UInt8 := match wholeT L with
  | some x => if rightL L = true then showX false x else []
  | none => []
def depthL (L : List Nod) : Nat := match wholeT L with
  | some x => if rightL L = true then x.deep else 0
  | none => 0
theorem shown_no {L : List Nod} (h : rightL L = false) : shownL L = [] := by
  unfold shownL; cases wholeT L <;> simp [h]
theorem depth_no {L : List Nod} (h : rightL L = false) : depthL L = 0 := by
  unfold depthL; cases wholeT L <;> simp [h]

set_option maxRecDepth 100000 in
set_option maxHeartbeats 2000000 in
theorem show_any (v : Value) (L : List Nod) (w : World) (h : ReadN w v L) (hl : L.length ≤ 10000) (hs : SmallN L) (ht : Tabs w) : Calls Tryz.prog 96 #[v] w (GivesSB (shownL L) w) := by
  have HR := Lib.hid h
  have HS := Lib.hid hs
  have HT := Lib.hid ht
  clear h hs ht
  cases hr : rightL L with
  | false =>
    have HQ := Lib.hid (shown_no hr)
    have HH := Lib.hid hr
    clear hr
    go_enter Tryz.func96, Tryz.ntmps96
    go_wp2_with fail
    refine (right_any v L _ HR.out hl HS.out).mono ?_
    rw [HH.out]
    rintro e w1 ⟨rfl, hb⟩
    go_wp2_with fail
    go_ret
    exact givesSB_of (l' := []) rfl HQ.out.symm hb
  | true =>
    obtain ⟨x, hw, ho, rfl, h40, hall, hd⟩ := right_some hr
    have HQ : Hid (shownL x.flat = showX false x) := Lib.hid (by unfold shownL; rw [hw]; simp [hr])
    have HH := Lib.hid hr
    have HX := Lib.hid (show ∀ (v : Value) (w : World), ReadN w v x.flat → Tabs w → Calls Tryz.prog 121 #[v] w (GivesSB (showX false x) w) from text_says 40 x (by rw [← flat_len]; exact h40) (Nat.le_refl _) ho (small_all hall))
    clear hr hw hall
    go_enter Tryz.func96, Tryz.ntmps96
    go_wp2_with fail
    refine (right_any v x.flat _ HR.out hl HS.out).mono ?_
    rw [HH.out]
    rintro e w1 ⟨rfl, hb⟩
    have HB := Lib.hid hb
    clear hb
    go_wp2_with fail
    refine (HX.out v _ (HR.out.on HB.out) (HT.out.on HB.out)).mono ?_
    rintro e w2 ⟨rfl, hb⟩
    go_wp2_with fail
    go_ret
    exact givesSB_of rfl HQ.out.symm (below_then HB.out hb)

end Go.Proofs.YtpeohfgadnfnpaaGreatDoor
/-
  DERIVED. Layer 3: contracts of expr.Same, of the one that the laws hold it against, and of the laws' comparison of texts.
-/
namespace Go.Proofs.YtpeohfgadnfnpaaGreatDoor
open Go.RowKit

/-- Lists that are alike, place by place. -/
def sameG {α : Type} (q : α → α → Bool) : List α → List α → Bool
  | [], [] => true
  | a :: l, b :: m => q a b && sameG q l m
  | _, _ => false
section
variable {α : Type} {q : α → α → Bool}
theorem sameG_len : ∀ {L M : List α}, L.length ≠ M.length → sameG q L M = false
  | [], [], h => absurd rfl h
  | [], b :: m, _ => rfl
  | a :: l, [], _ => rfl
  | a :: l, b :: m, h => by
    unfold sameG; rw [sameG_len (L := l) (M := m) (fun e => h (by simp [e]))]; simp
theorem sameG_succ : ∀ {L M : List α} {k : Nat} {a b : α}, L[k]? = some a → M[k]? = some b → sameG q (L.take (k + 1)) (M.take (k + 1)) = (sameG q (L.take k) (M.take k) && q a b)
  | [], M, k, a, b, h, _ => by simp at h
  | x :: l, [], k, a, b, _, h => by simp at h
  | x :: l, y :: m, 0, a, b, h, h2 => by
    simp at h h2; subst h; subst h2
    simp [sameG]
  | x :: l, y :: m, k + 1, a, b, h, h2 => by
    have ih := sameG_succ (L := l) (M := m) (k := k) (a := a) (b := b) (by simpa using h) (by simpa using h2)
    rw [List.take_succ_cons, List.take_succ_cons, List.take_succ_cons, List.take_succ_cons]
    unfold sameG
    rw [ih, Bool.and_assoc]
theorem sameG_no : ∀ {L M : List α} {k : Nat} {a b : α}, L[k]? = some a → M[k]? = some b → q a b = false → sameG q L M = false
  | [], M, k, a, b, h, _, _ => by simp at h
  | x :: l, [], k, a, b, _, h, _ => by simp at h
  | x :: l, y :: m, 0, a, b, h, h2, he => by
    simp at h h2; subst h; subst h2
    unfold sameG; rw [he]; rfl
  | x :: l, y :: m, k + 1, a, b, h, h2, he => by
    unfold sameG; rw [sameG_no (L := l) (M := m) (k := k) (by simpa using h) (by simpa using h2) he]; simp
theorem sameG_all {L M : List α} {k : Nat} (hk : L.length ≤ k) (hl : L.length = M.length) (h : sameG q (L.take k) (M.take k) = true) : sameG q L M = true := by
  rwa [List.take_of_length_le hk, List.take_of_length_le (by omega)] at h
theorem sameG_refl (hq : ∀ a, q a a = true) : ∀ L : List α, sameG q L L = true
  | [] => rfl
  | a :: l => by unfold sameG; rw [hq, sameG_refl hq l]; rfl
end
def nodEq (p : Bool) (a b : Nod) : Bool := a.op == b.op && a.n == b.n && a.name == b.name && (!p || a.pl == b.pl)
def sameN (p : Bool) (L M : List Nod) : Bool := sameG (nodEq p) L M
def sameS (L M : List (List UInt8)) : Bool := sameG (fun a b => a == b) L M

set_option maxRecDepth 100000 in
set_option maxHeartbeats 2000000 in
theorem eqNod_any (a b : Nod) (w : World) : Calls Tryz.prog 66 #[.agg #[.int .i64 a.op, .int .i64 a.n, .string ⟨a.name.toArray⟩, .int .i64 a.pl], .agg #[.int .i64 b.op, .int .i64 b.n, .string ⟨b.name.toArray⟩, .int .i64 b.pl]] w (TellsB (nodEq false a b) w) := by
  go_enter Tryz.func66, Tryz.ntmps66
  go_wp2_with fail
  all_goals
    go_ret
    refine ⟨ret_bool ?_, ?_⟩
    · simp_all [nodEq]
    · exact ((Below.refl _ _).alloc (Nat.le_refl _) _).alloc (by simp) _

set_option maxRecDepth 100000 in
set_option maxHeartbeats 4000000 in
theorem equalFunc_any (v1 v2 : Value) (L M : List Nod) (w : World) (h1 : ReadN w v1 L) (h2 : ReadN w v2 M) (hl : L.length ≤ 10000) :
    Calls Tryz.prog 65 #[v1, v2, .func (.func 66) #[] #[]] w (TellsB (sameN false L M) w) := by
  have HR1 := Lib.hid h1
  have HR2 := Lib.hid h2
  obtain ⟨A, c, rfl, hc, hm1, hr1⟩ := h1
  obtain ⟨A', c', rfl, hc', hm2, hr2⟩ := h2
  clear hr1 hr2
  by_cases hL : L.length = M.length
  · rw [← hL] at HR2 hc' ⊢
    have HL := Lib.hid hL
    have HM := Lib.hid (show ∀ k, k < L.length → k < M.length by rw [hL]; exact fun _ h => h)
    clear hL
    go_enter Tryz.func65, Tryz.ntmps65
    go_wp2_with fail
    go_loopw [17] (fun i wr => ∃ k : Nat, k ≤ L.length ∧ i = .int .i64 k ∧ Below w.heap.size w wr ∧ sameG (nodEq false) (L.take k) (M.take k) = true) (fun i _ => L.length - (intOf i).toNat)
    case atStart => exact ⟨0, Nat.zero_le _, rfl, Below.refl _ _, rfl⟩
    case round =>
      obtain ⟨k, hk, rfl, hbel, hs⟩ := hrel
      have HS := Lib.hid hs
      have HB := Lib.hid hbel
      have hsz := hbel.size
      clear hs
      by_cases hlt : k < L.length
      · have hkm := HM.out k hlt
        have ha : L[k]? = some L[k] := List.getElem?_eq_getElem hlt
        have hb : M[k]? = some (M[k]'hkm) := List.getElem?_eq_getElem hkm
        generalize L[k] = a at *
        generalize M[k]'hkm = b at *
        obtain ⟨A2, c2, hv, _, _, hr⟩ := HR1.out.on hbel
        obtain ⟨rfl, _, rfl⟩ : A = A2 ∧ True ∧ c = c2 := by simpa using hv
        obtain ⟨A2', c2', hv', _, _, hr'⟩ := HR2.out.on hbel
        obtain ⟨rfl, rfl⟩ : A' = A2' ∧ c' = c2' := by simp only [Value.slice.injEq] at hv'; exact ⟨hv'.1, hv'.2.2⟩
        obtain ⟨g, o, rfl, hg, x0, x1, x2, x3⟩ := hr k a ha
        obtain ⟨g', o', rfl, hg', y0, y1, y2, y3⟩ := hr' k b hb
        have HN := Lib.hid (fun h => sameG_no (q := nodEq false) ha hb h)
        have HY := Lib.hid (sameG_succ (q := nodEq false) ha hb)
        clear ha hb hr hr' hv hv' hbel
        cases e1 : nodEq false a b with
        | false =>
          have HE := Lib.hid e1
          clear e1
          go_wp2_with fail
          refine (eqNod_any a b _).mono ?_
          rw [HE.out]
          rintro e w1 ⟨rfl, hb⟩
          have HB2 := Lib.hid (((HB.out.alloc hsz _).alloc (by simp; omega) _).trans (hb.mono (by simp; omega)))
          clear hb
          go_wp2_with fail
          go_ret
          exact ⟨ret_bool (HN.out HE.out).symm, HB2.out⟩
        | true =>
          have HE := Lib.hid e1
          clear e1
          go_wp2_with fail
          refine (eqNod_any a b _).mono ?_
          rw [HE.out]
          rintro e w1 ⟨rfl, hb⟩
          have HB2 := Lib.hid (((HB.out.alloc hsz _).alloc (by simp; omega) _).trans (hb.mono (by simp; omega)))
          clear hb
          go_wp2_with fail
          go_roundw
          case rel => exact ⟨k + 1, by omega, by go_num, HB2.out, by rw [HY.out, HS.out, HE.out]; rfl⟩
          case measure => simp [intOf]; omega
      · have HQ := Lib.hid (sameG_all (by omega) HL.out HS.out)
        clear hbel
        go_wp2_with fail
        go_ret
        exact ⟨ret_bool HQ.out.symm, HB.out⟩
  · have HQ := Lib.hid (sameG_len (q := nodEq false) hL)
    have hd : ((L.length : Int) != (M.length : Int)) = true := by simp; omega
    clear hL
    go_enter Tryz.func65, Tryz.ntmps65
    go_wp2_with fail
    go_ret
    exact ⟨ret_bool HQ.out.symm, Below.refl _ _⟩
theorem same_any (v1 v2 : Value) (L M : List Nod) (w : World) (h1 : ReadN w v1 L) (h2 : ReadN w v2 M) (hl : L.length ≤ 10000) : Calls Tryz.prog 39 #[v1, v2] w (TellsB (sameN false L M) w) := by
  have HR1 := Lib.hid h1
  have HR2 := Lib.hid h2
  clear h1 h2
  go_enter Tryz.func39, Tryz.ntmps39
  go_wp2_with fail
  refine (equalFunc_any v1 v2 L M _ HR1.out HR2.out hl).mono ?_
  rintro e w1 ⟨rfl, hb⟩
  go_wp2_with fail
  go_ret
  exact ⟨rfl, hb⟩

set_option maxRecDepth 100000 in
set_option maxHeartbeats 4000000 in
theorem rsame_any (p : Bool) (v1 v2 : Value) (L M : List Nod) (w : World) (h1 : ReadN w v1 L) (h2 : ReadN w v2 M) (hl : L.length ≤ 10000) :
    Calls Tryz.prog 29 #[v1, v2, .bool p] w (TellsB (sameN p L M) w) := by
  obtain ⟨A, c, rfl, hc, _, hr1⟩ := h1
  obtain ⟨A', c', rfl, hc', _, hr2⟩ := h2
  have HR1 := Lib.hid hr1
  have HR2 := Lib.hid hr2
  clear hr1 hr2
  by_cases hL : L.length = M.length
  · rw [← hL]
    have HL := Lib.hid hL
    have hkM : ∀ k, k < L.length → k < M.length := by rw [hL]; exact fun _ h => h
    have HM := Lib.hid hkM
    clear hL hkM
    go_enter Tryz.func29, Tryz.ntmps29
    go_wp2_with fail
    go_loopw [7] (fun i wr => ∃ k n : Nat, k ≤ L.length ∧ i = .int .i64 k ∧ wr = w.drewN n ∧ sameG (nodEq p) (L.take k) (M.take k) = true) (fun i _ => L.length - (intOf i).toNat)
    case atStart => exact ⟨0, 0, Nat.zero_le _, rfl, rfl, rfl⟩
    case round =>
      obtain ⟨k, n, hk, rfl, rfl, hs⟩ := hrel
      have HS := Lib.hid hs
      clear hs
      by_cases hlt : k < L.length
      · have hkm := HM.out k hlt
        have ha : L[k]? = some L[k] := List.getElem?_eq_getElem hlt
        have hb : M[k]? = some (M[k]'hkm) := List.getElem?_eq_getElem hkm
        generalize L[k] = a at *
        generalize M[k]'hkm = b at *
        obtain ⟨g, o, rfl, hg, x0, x1, x2, x3⟩ := HR1.out k a ha
        obtain ⟨g', o', rfl, hg', y0, y1, y2, y3⟩ := HR2.out k b hb
        have HN := Lib.hid (fun h => sameG_no (q := nodEq p) ha hb h)
        have HY := Lib.hid (sameG_succ (q := nodEq p) ha hb)
        clear ha hb
        cases e1 : (a.op != b.op) with
        | true =>
          have HQ : Hid (nodEq p a b = false) := Lib.hid (by unfold nodEq; simp at e1; simp [e1])
          go_wp2_with fail
          go_quiet (fail)
          go_wp2_with fail
          go_ret
          exact ⟨ret_bool (HN.out HQ.out).symm, below_drews _ _ _⟩
        | false =>
          cases e2 : (a.n != b.n) with
          | true =>
            have HQ : Hid (nodEq p a b = false) := Lib.hid (by unfold nodEq; simp at e2; simp [e2])
            go_wp2_with fail
            go_quiet (fail)
            go_wp2_with fail
            go_ret
            exact ⟨ret_bool (HN.out HQ.out).symm, below_drews _ _ _⟩
          | false =>
            cases e3 : (a.name == b.name) with
            | false =>
              have HQ : Hid (nodEq p a b = false) := Lib.hid (by unfold nodEq; simp at e3; simp [e3])
              go_wp2_with fail
              go_quiet (fail)
              go_wp2_with fail
              go_ret
              exact ⟨ret_bool (HN.out HQ.out).symm, below_drews _ _ _⟩
            | true =>
              cases p with
              | false =>
                have HQ : Hid (nodEq false a b = true) := Lib.hid (by unfold nodEq; simp at e1 e2 e3; simp [e1, e2, e3])
                go_wp2_with fail
                go_quiet (fail)
                go_wp2_with fail
                go_roundw
                case rel => exact ⟨k + 1, _, by omega, by go_num, rfl, by rw [HY.out, HS.out, HQ.out]; rfl⟩
                case measure => simp [intOf]; omega
              | true =>
                cases e4 : (a.pl != b.pl) with
                | true =>
                  have HQ : Hid (nodEq true a b = false) := Lib.hid (by unfold nodEq; simp at e4; simp [e4])
                  go_wp2_with fail
                  go_quiet (fail)
                  go_wp2_with fail
                  go_ret
                  exact ⟨ret_bool (HN.out HQ.out).symm, below_drews _ _ _⟩
                | false =>
                  have HQ : Hid (nodEq true a b = true) := Lib.hid (by unfold nodEq; simp at e1 e2 e3 e4; simp [e1, e2, e3, e4])
                  go_wp2_with fail
                  go_quiet (fail)
                  go_wp2_with fail
                  go_roundw
                  case rel => exact ⟨k + 1, _, by omega, by go_num, rfl, by rw [HY.out, HS.out, HQ.out]; rfl⟩
                  case measure => simp [intOf]; omega
      · have HQ := Lib.hid (sameG_all (by omega) HL.out HS.out)
        go_wp2_with fail
        go_ret
        exact ⟨ret_bool HQ.out.symm, below_drew1 _ _⟩
  · have HQ := Lib.hid (sameG_len (q := nodEq p) hL)
    have hd : ((L.length : Int) != (M.length : Int)) = true := by simp; omega
    clear hL
    go_enter Tryz.func29, Tryz.ntmps29
    go_wp2_with fail
    go_ret
    exact ⟨ret_bool HQ.out.symm, Below.refl _ _⟩

end Go.Proofs.YtpeohfgadnfnpaaGreatDoor
