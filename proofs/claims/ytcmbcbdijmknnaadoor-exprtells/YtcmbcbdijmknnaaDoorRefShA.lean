/-
  DERIVED. Layer 3: the document's show at a leaf and behind a sign (leadlineref03).
-/
import Derived.Test.YtcmbcbdijmknnaaDoorRefText
namespace Go.Proofs.YtcmbcbdijmknnaaDoor
open Go.RowKit

def RShow (x : Ex) : Prop := ∀ (v : Value) (L : List Nod) (i : Nat) (r : List Nod) (b : Bool) (w : World), ReadN w v L → L.length ≤ 10000 → L.drop i = x.flat ++ r → Calls Tryd.prog 40 #[v, .int .i64 i, .bool b] w (GivesSB (showX b x) w)
theorem kept_one {W w1 w2 : World} {a : Nat} {u : Value} (ha : a < W.heap.size) (h : w1.cell? ⟨a, 0, none⟩ = some u ∧ Below W.heap.size W w1) (hb : Below w1.heap.size w1 w2) : w2.cell? ⟨a, 0, none⟩ = some u ∧ Below W.heap.size W w2 := by
  have hz := h.2.size
  exact ⟨(hb.cell (p := ⟨a, 0, none⟩) (by show a < _; omega)).trans h.1, below_then h.2 hb⟩

set_option maxRecDepth 100000 in
set_option maxHeartbeats 4000000 in
theorem rshow_leaf (a : Nod) (ho : (Ex.leaf a).ok) (hs : SmallX (.leaf a)) : RShow (.leaf a) := by
  intro v L i r b w h hl hd
  have hat : L[i]? = some a := lies_top hd
  have hil := lies_len hd
  obtain ⟨A, c, rfl, hc, hm, hr⟩ := h
  obtain ⟨g, o, rfl, hg, x0, x1, x2, x3⟩ := hr i a hat
  have hsm := hs a (by simp [Ex.flat])
  have hop : a.op = 1 ∨ a.op = 2 := by
    have h0 : takesN a.op = some 0 := ho
    unfold takesN at h0
    by_cases h1 : a.op = 1 ∨ a.op = 2
    · exact h1
    · rw [if_neg h1] at h0; split at h0 <;> simp at h0
  simp only [Ex.size] at hil
  have hlt : i < L.length := by omega
  clear hr hat hd
  obtain ⟨op, n, name, pl⟩ := a
  simp only at hop x0 x1 x2 x3 hsm
  rcases hop with rfl | rfl
  · have HS : Hid (showX b (.leaf ⟨1, n, name, pl⟩) = Lib.itoa n) := Lib.hid (by simp [showX])
    go_enter Tryd.func40, Tryd.ntmps40
    go_wp2_with fail
    refine (rtext_any _ n rfl (by omega) (by omega) _).mono ?_
    rintro e w1 ⟨rfl, hb⟩
    have HB := Lib.hid (below_box hb)
    clear hb
    go_wp2_with fail
    go_ret
    exact givesSB_of rfl HS.out.symm HB.out
  · have HS : Hid (showX b (.leaf ⟨2, n, name, pl⟩) = name) := Lib.hid (by simp [showX])
    go_enter Tryd.func40, Tryd.ntmps40
    go_wp2_with fail
    go_ret
    exact givesSB_of rfl HS.out.symm ((Below.refl _ _).alloc (Nat.le_refl _) _)

set_option maxRecDepth 100000 in
set_option maxHeartbeats 4000000 in
theorem rshow_un (a : Nod) (x : Ex) (ho : (Ex.un a x).ok) (hs : SmallX (.un a x)) (hz : x.size ≤ 40) (hx : RShow x) : RShow (.un a x) := by
  intro v L i r b w h hl hd
  have hat : L[i]? = some a := lies_top hd
  have hil := lies_len hd
  have HH := Lib.hid h
  obtain ⟨r1, hr1⟩ := kid_lies (x := .un a x) (y := x) (d := []) (r := []) hd rfl
  rw [show i + (1 + sizes []) = i + 1 from rfl] at hr1
  have HR1 := Lib.hid hr1
  obtain ⟨A, c, rfl, hc, hm, hr⟩ := h
  obtain ⟨g, o, rfl, hg, x0, x1, x2, x3⟩ := hr i a hat
  have hxl := show_len x true (fun c hc => hs c (by simp [Ex.flat, hc]))
  have HX := Lib.hid (show ∀ (v : Value) (L : List Nod) (i : Nat) (r : List Nod) (b : Bool) (w : World), ReadN w v L → L.length ≤ 10000 → L.drop i = x.flat ++ r → Calls Tryd.prog 40 #[v, .int .i64 i, .bool b] w (GivesSB (showX b x) w) from hx)
  have HK : Hid (takesV a.op = 1) := Lib.hid (takesV_some ho.1)
  have hop : a.op = 3 ∨ a.op = 4 := by
    have h0 : takesN a.op = some 1 := ho.1
    unfold takesN at h0
    by_cases h1 : a.op = 1 ∨ a.op = 2
    · rw [if_pos h1] at h0; simp at h0
    · rw [if_neg h1] at h0
      by_cases h2 : a.op = 3 ∨ a.op = 4
      · exact h2
      · rw [if_neg h2] at h0; split at h0 <;> simp at h0
  have hsl := sign_len a.op.toNat
  have HS : Hid (showX b (.un a x) = signT a.op.toNat ++ showX true x) := Lib.hid rfl
  have hlt : i < L.length := by simp only [Ex.size] at hil; omega
  clear hr hat hd hr1 hx hil
  obtain ⟨op, n, name, pl⟩ := a
  simp only at hop x0 x1 x2 x3 hsl HK HS
  have hop3 : 3 ≤ op ∧ op ≤ 15 := by omega
  have e1 : (op == 1) = false := beq_eq_false_iff_ne.2 (by omega)
  have e2 : (op == 2) = false := beq_eq_false_iff_ne.2 (by omega)
  clear hop
  generalize hsg : signT op.toNat = sg at *
  have HSG := Lib.hid hsg
  generalize hsx : showX true x = sx at *
  have HSX := Lib.hid hsx
  clear hsg hsx
  go_enter Tryd.func40, Tryd.ntmps40
  go_wp2_with fail
  refine (rkids_any _ _).mono ?_
  rw [HK.out]
  rintro e w' ⟨rfl, rfl⟩
  go_wp2_with fail
  refine (rsign3_any op hop3.1 hop3.2 _).mono ?_
  rw [HSG.out]
  rintro e w1 ⟨rfl, hb⟩
  have HB := Lib.hid (below_box hb)
  clear hb
  go_wp2_with fail
  refine (HX.out _ L (i + 1) r1 true _ (HH.out.on HB.out) hl HR1.out).mono ?_
  rw [HSX.out]
  rintro e w2 ⟨rfl, hb⟩
  replace HB := Lib.hid (below_then HB.out hb)
  clear hb
  go_wp2_with fail
  go_ret
  exact givesSB_of (by rw [← str_app]; rfl) HS.out.symm HB.out

end Go.Proofs.YtcmbcbdijmknnaaDoor
