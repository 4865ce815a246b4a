/-
  DERIVED. Layer 4: the contract of the document's head: a statement's first line.
-/
import Derived.Test.YtpeohfgadnfnpaaGreatDoorQ24
import Derived.Test.YtpeohfgadnfnpaaGreatDoorQ52
namespace Go.Proofs.YtpeohfgadnfnpaaGreatDoor
open Go.RowKit

theorem keepS {W w1 w2 : World} {h : Nat} {a b c d e f : Value} (hg : h < W.heap.size) (k : w1.cell? ⟨h, 0, none⟩ = some a ∧ w1.cell? ⟨h, 1, none⟩ = some b ∧ w1.cell? ⟨h, 2, none⟩ = some c ∧ w1.cell? ⟨h, 3, none⟩ = some d ∧ w1.cell? ⟨h, 4, none⟩ = some e ∧ w1.cell? ⟨h, 5, none⟩ = some f ∧ Below W.heap.size W w1) (hb : Below w1.heap.size w1 w2) :
    w2.cell? ⟨h, 0, none⟩ = some a ∧ w2.cell? ⟨h, 1, none⟩ = some b ∧ w2.cell? ⟨h, 2, none⟩ = some c ∧ w2.cell? ⟨h, 3, none⟩ = some d ∧ w2.cell? ⟨h, 4, none⟩ = some e ∧ w2.cell? ⟨h, 5, none⟩ = some f ∧ Below W.heap.size W w2 := by
  obtain ⟨k0, k1, k2, k3, k4, k5, kb⟩ := k
  have q : ∀ j, w2.cell? ⟨h, j, none⟩ = w1.cell? ⟨h, j, none⟩ := fun j => hb.cell (p := ⟨h, j, none⟩) (Nat.lt_of_lt_of_le hg kb.size)
  exact ⟨by rw [q, k0], by rw [q, k1], by rw [q, k2], by rw [q, k3], by rw [q, k4], by rw [q, k5], below_then kb hb⟩
set_option maxRecDepth 100000 in
set_option maxHeartbeats 4000000 in
theorem rhead1 (reg name : List UInt8) (e f : List Nod) (n body els pl : Int) (AE : Option Addr) (cE : Nat) (AF : Option Addr) (cF : Nat) (w : World) (hE : ReadN w (.slice AE e.length cE) e) (hr : nameB reg = true) (he : rightL e = true) :
    Calls Tryz.prog 64 #[.agg #[.int .i64 1, .string ⟨reg.toArray⟩, .string ⟨name.toArray⟩, .slice AE e.length cE, .slice AF f.length cF, .int .i64 n, .int .i64 body, .int .i64 els, .int .i64 pl]] w (GivesSB (headS ⟨1, reg, name, e, f, n, body, els, pl⟩) w) := by
  have HE := Lib.hid hE
  have hrl := name_len hr
  obtain ⟨sh, hsh⟩ : ∃ sh, shownL e = sh := ⟨_, rfl⟩
  have HSH := Lib.hid hsh
  have hln := shownL_len he
  rw [hsh] at hln
  have HSM := Lib.hid (right_small he)
  clear hsh he
  have HS : Hid (headS ⟨1, reg, name, e, f, n, body, els, pl⟩ = reg ++ [32, 61, 32] ++ sh) := Lib.hid (by unfold headS; rw [if_pos rfl, ← HSH.out, List.append_assoc])
  rw [HS.out]
  have hcat1 : ¬ (9223372036854775807 < reg.length + 3) := by omega
  have hcat2 : ¬ (9223372036854775807 < reg.length + 3 + sh.length) := by omega
  clear hr hE
  go_enter Tryz.func64, Tryz.ntmps64
  go_upto_region 3 with (fail)
  have HB0 := Lib.hid ((Below.refl w.heap.size w).alloc (Nat.le_refl _) (.cells #[.int .i64 1, .string ⟨reg.toArray⟩, .string ⟨name.toArray⟩, .slice AE e.length cE, .slice AF f.length cF, .int .i64 n, .int .i64 body, .int .i64 els, .int .i64 pl] 31))
  have N9 := Lib.hid (nine_new w (.int .i64 1) (.string ⟨reg.toArray⟩) (.string ⟨name.toArray⟩) (.slice AE e.length cE) (.slice AF f.length cF) (.int .i64 n) (.int .i64 body) (.int .i64 els) (.int .i64 pl) 31)
  generalize w.alloc (.cells #[.int .i64 1, .string ⟨reg.toArray⟩, .string ⟨name.toArray⟩, .slice AE e.length cE, .slice AF f.length cF, .int .i64 n, .int .i64 body, .int .i64 els, .int .i64 pl] 31) = W at *
  obtain ⟨hW, y0, y1, y2, y3, y4, y5, _, _, _⟩ := N9.out
  go_region_held3 (fun w' => w'.cell? ⟨w.heap.size, 0, none⟩ = some (.int .i64 1) ∧ w'.cell? ⟨w.heap.size, 1, none⟩ = some (.string ⟨reg.toArray⟩) ∧ w'.cell? ⟨w.heap.size, 2, none⟩ = some (.string ⟨name.toArray⟩) ∧ w'.cell? ⟨w.heap.size, 3, none⟩ = some (.slice AE e.length cE) ∧ w'.cell? ⟨w.heap.size, 4, none⟩ = some (.slice AF f.length cF) ∧ w'.cell? ⟨w.heap.size, 5, none⟩ = some (.int .i64 n) ∧ Below W.heap.size W w')
    (first | exact ⟨y0, y1, y2, y3, y4, y5, Below.refl _ _⟩ | exact ⟨y0, y1, y2, y3, y4, y5, below_drT _⟩ | exact keepS (w1 := W.drew) hW ⟨y0, y1, y2, y3, y4, y5, below_drT _⟩ hb | exact keepS hW (keepS (w1 := W.drew) hW ⟨y0, y1, y2, y3, y4, y5, below_drT _⟩ hb) hb2)
    (first
      | (go_at_call 98; refine (rShow_any _ e _ (HE.out.on (below_then HB0.out (below_drT _))) HSM.out.1 HSM.out.2).mono ?_; rw [HSH.out]; rintro e1 w1 ⟨rfl, hb⟩))
  go_wp2_with fail
  go_ret
  exact givesSB_of (by rw [← str_app, ← str_app]; rfl) rfl (below_then HB0.out (below_then (below_drT _) hb))

set_option maxRecDepth 100000 in
set_option maxHeartbeats 4000000 in
theorem rhead2 (reg name : List UInt8) (e f : List Nod) (n body els pl : Int) (AE : Option Addr) (cE : Nat) (AF : Option Addr) (cF : Nat) (w : World) (hr : nameB reg = true) (hn : nameB name = true) :
    Calls Tryz.prog 64 #[.agg #[.int .i64 2, .string ⟨reg.toArray⟩, .string ⟨name.toArray⟩, .slice AE e.length cE, .slice AF f.length cF, .int .i64 n, .int .i64 body, .int .i64 els, .int .i64 pl]] w (GivesSB (headS ⟨2, reg, name, e, f, n, body, els, pl⟩) w) := by
  have hrl := name_len hr
  have hnl := name_len hn
  have HS : Hid (headS ⟨2, reg, name, e, f, n, body, els, pl⟩ = [108, 111, 97, 100, 32] ++ reg ++ [32, 61, 32] ++ name) := Lib.hid (by simp [headS, kwL, kwTab])
  generalize headS ⟨2, reg, name, e, f, n, body, els, pl⟩ = S at *
  have hcat1 : ¬ (9223372036854775807 < 5 + reg.length) := by omega
  have hcat2 : ¬ (9223372036854775807 < 5 + reg.length + 3) := by omega
  have hcat3 : ¬ (9223372036854775807 < 5 + reg.length + 3 + name.length) := by omega
  clear hr hn
  go_enter Tryz.func64, Tryz.ntmps64
  go_upto_region 5 with (fail)
  have HB0 := Lib.hid ((Below.refl w.heap.size w).alloc (Nat.le_refl _) (.cells #[.int .i64 2, .string ⟨reg.toArray⟩, .string ⟨name.toArray⟩, .slice AE e.length cE, .slice AF f.length cF, .int .i64 n, .int .i64 body, .int .i64 els, .int .i64 pl] 31))
  have N9 := Lib.hid (nine_new w (.int .i64 2) (.string ⟨reg.toArray⟩) (.string ⟨name.toArray⟩) (.slice AE e.length cE) (.slice AF f.length cF) (.int .i64 n) (.int .i64 body) (.int .i64 els) (.int .i64 pl) 31)
  generalize w.alloc (.cells #[.int .i64 2, .string ⟨reg.toArray⟩, .string ⟨name.toArray⟩, .slice AE e.length cE, .slice AF f.length cF, .int .i64 n, .int .i64 body, .int .i64 els, .int .i64 pl] 31) = W at *
  obtain ⟨hW, y0, y1, y2, y3, y4, y5, _, _, _⟩ := N9.out
  go_wp2_with fail
  go_ret
  exact givesSB_of (l' := [108, 111, 97, 100, 32] ++ reg ++ [32, 61, 32] ++ name) (by rw [← str_app, ← str_app, ← str_app]; rfl) HS.out.symm HB0.out

set_option maxRecDepth 100000 in
set_option maxHeartbeats 4000000 in
theorem rhead3 (reg name : List UInt8) (e f : List Nod) (n body els pl : Int) (AE : Option Addr) (cE : Nat) (AF : Option Addr) (cF : Nat) (w : World) (hE : ReadN w (.slice AE e.length cE) e) (hn : nameB name = true) (he : rightL e = true) :
    Calls Tryz.prog 64 #[.agg #[.int .i64 3, .string ⟨reg.toArray⟩, .string ⟨name.toArray⟩, .slice AE e.length cE, .slice AF f.length cF, .int .i64 n, .int .i64 body, .int .i64 els, .int .i64 pl]] w (GivesSB (headS ⟨3, reg, name, e, f, n, body, els, pl⟩) w) := by
  have HE := Lib.hid hE
  have hnl := name_len hn
  obtain ⟨sh, hsh⟩ : ∃ sh, shownL e = sh := ⟨_, rfl⟩
  have HSH := Lib.hid hsh
  have hln := shownL_len he
  rw [hsh] at hln
  have HSM := Lib.hid (right_small he)
  clear hsh he
  have HS : Hid (headS ⟨3, reg, name, e, f, n, body, els, pl⟩ = [115, 116, 111, 114, 101, 32] ++ name ++ [32, 61, 32] ++ sh) := Lib.hid (by simp [headS, kwL, kwTab, ← HSH.out])
  generalize headS ⟨3, reg, name, e, f, n, body, els, pl⟩ = S at *
  have hcat1 : ¬ (9223372036854775807 < 6 + name.length) := by omega
  have hcat2 : ¬ (9223372036854775807 < 6 + name.length + 3) := by omega
  have hcat3 : ¬ (9223372036854775807 < 6 + name.length + 3 + sh.length) := by omega
  clear hn hE
  go_enter Tryz.func64, Tryz.ntmps64
  go_upto_region 7 with (fail)
  have HB0 := Lib.hid ((Below.refl w.heap.size w).alloc (Nat.le_refl _) (.cells #[.int .i64 3, .string ⟨reg.toArray⟩, .string ⟨name.toArray⟩, .slice AE e.length cE, .slice AF f.length cF, .int .i64 n, .int .i64 body, .int .i64 els, .int .i64 pl] 31))
  have N9 := Lib.hid (nine_new w (.int .i64 3) (.string ⟨reg.toArray⟩) (.string ⟨name.toArray⟩) (.slice AE e.length cE) (.slice AF f.length cF) (.int .i64 n) (.int .i64 body) (.int .i64 els) (.int .i64 pl) 31)
  generalize w.alloc (.cells #[.int .i64 3, .string ⟨reg.toArray⟩, .string ⟨name.toArray⟩, .slice AE e.length cE, .slice AF f.length cF, .int .i64 n, .int .i64 body, .int .i64 els, .int .i64 pl] 31) = W at *
  obtain ⟨hW, y0, y1, y2, y3, y4, y5, _, _, _⟩ := N9.out
  go_region_held3 (fun w' => w'.cell? ⟨w.heap.size, 0, none⟩ = some (.int .i64 3) ∧ w'.cell? ⟨w.heap.size, 1, none⟩ = some (.string ⟨reg.toArray⟩) ∧ w'.cell? ⟨w.heap.size, 2, none⟩ = some (.string ⟨name.toArray⟩) ∧ w'.cell? ⟨w.heap.size, 3, none⟩ = some (.slice AE e.length cE) ∧ w'.cell? ⟨w.heap.size, 4, none⟩ = some (.slice AF f.length cF) ∧ w'.cell? ⟨w.heap.size, 5, none⟩ = some (.int .i64 n) ∧ Below W.heap.size W w')
    (first | exact ⟨y0, y1, y2, y3, y4, y5, Below.refl _ _⟩ | exact ⟨y0, y1, y2, y3, y4, y5, below_drT _⟩ | exact keepS (w1 := W.drew) hW ⟨y0, y1, y2, y3, y4, y5, below_drT _⟩ hb | exact keepS hW (keepS (w1 := W.drew) hW ⟨y0, y1, y2, y3, y4, y5, below_drT _⟩ hb) hb2)
    (first
      | (go_at_call 98; refine (rShow_any _ e _ (HE.out.on (below_then HB0.out (below_drT _))) HSM.out.1 HSM.out.2).mono ?_; rw [HSH.out]; rintro e1 w1 ⟨rfl, hb⟩))
  go_wp2_with fail
  go_ret
  exact givesSB_of (l' := [115, 116, 111, 114, 101, 32] ++ name ++ [32, 61, 32] ++ sh) (by rw [← str_app, ← str_app, ← str_app]; rfl) HS.out.symm (below_then HB0.out (below_then (below_drT _) hb))

set_option maxRecDepth 100000 in
set_option maxHeartbeats 4000000 in
theorem rhead4 (reg name : List UInt8) (e f : List Nod) (n body els pl : Int) (AE : Option Addr) (cE : Nat) (AF : Option Addr) (cF : Nat) (w : World) (hE : ReadN w (.slice AE e.length cE) e) (hF : ReadN w (.slice AF f.length cF) f) (hr : nameB reg = true) (hn : nameB name = true) (he : rightL e = true) (hf : rightL f = true) :
    Calls Tryz.prog 64 #[.agg #[.int .i64 4, .string ⟨reg.toArray⟩, .string ⟨name.toArray⟩, .slice AE e.length cE, .slice AF f.length cF, .int .i64 n, .int .i64 body, .int .i64 els, .int .i64 pl]] w (GivesSB (headS ⟨4, reg, name, e, f, n, body, els, pl⟩) w) := by
  have HE := Lib.hid hE
  have HF := Lib.hid hF
  have hrl := name_len hr
  have hnl := name_len hn
  obtain ⟨sh, hsh⟩ : ∃ sh, shownL e = sh := ⟨_, rfl⟩
  have HSH := Lib.hid hsh
  have hln := shownL_len he
  rw [hsh] at hln
  have HSM := Lib.hid (right_small he)
  clear hsh he
  obtain ⟨sg, hsg⟩ : ∃ sg, shownL f = sg := ⟨_, rfl⟩
  have HSG := Lib.hid hsg
  have hlg := shownL_len hf
  rw [hsg] at hlg
  have HSF := Lib.hid (right_small hf)
  clear hsg hf
  have HS : Hid (headS ⟨4, reg, name, e, f, n, body, els, pl⟩ = [99, 97, 115, 32] ++ reg ++ [32, 61, 32] ++ name ++ [44, 32] ++ sh ++ [44, 32] ++ sg) := Lib.hid (by simp [headS, kwL, kwTab, ← HSH.out, ← HSG.out])
  generalize headS ⟨4, reg, name, e, f, n, body, els, pl⟩ = S at *
  have hcat1 : ¬ (9223372036854775807 < 4 + reg.length) := by omega
  have hcat2 : ¬ (9223372036854775807 < 4 + reg.length + 3) := by omega
  have hcat3 : ¬ (9223372036854775807 < 4 + reg.length + 3 + name.length) := by omega
  have hcat4 : ¬ (9223372036854775807 < 4 + reg.length + 3 + name.length + 2) := by omega
  have hcat5 : ¬ (9223372036854775807 < 4 + reg.length + 3 + name.length + 2 + sh.length) := by omega
  have hcat6 : ¬ (9223372036854775807 < 4 + reg.length + 3 + name.length + 2 + sh.length + 2) := by omega
  have hcat7 : ¬ (9223372036854775807 < 4 + reg.length + 3 + name.length + 2 + sh.length + 2 + sg.length) := by omega
  clear hr hn hE hF
  go_enter Tryz.func64, Tryz.ntmps64
  go_upto_region 9 with (fail)
  have HB0 := Lib.hid ((Below.refl w.heap.size w).alloc (Nat.le_refl _) (.cells #[.int .i64 4, .string ⟨reg.toArray⟩, .string ⟨name.toArray⟩, .slice AE e.length cE, .slice AF f.length cF, .int .i64 n, .int .i64 body, .int .i64 els, .int .i64 pl] 31))
  have N9 := Lib.hid (nine_new w (.int .i64 4) (.string ⟨reg.toArray⟩) (.string ⟨name.toArray⟩) (.slice AE e.length cE) (.slice AF f.length cF) (.int .i64 n) (.int .i64 body) (.int .i64 els) (.int .i64 pl) 31)
  generalize w.alloc (.cells #[.int .i64 4, .string ⟨reg.toArray⟩, .string ⟨name.toArray⟩, .slice AE e.length cE, .slice AF f.length cF, .int .i64 n, .int .i64 body, .int .i64 els, .int .i64 pl] 31) = W at *
  obtain ⟨hW, y0, y1, y2, y3, y4, y5, _, _, _⟩ := N9.out
  go_region_held3 (fun w' => w'.cell? ⟨w.heap.size, 0, none⟩ = some (.int .i64 4) ∧ w'.cell? ⟨w.heap.size, 1, none⟩ = some (.string ⟨reg.toArray⟩) ∧ w'.cell? ⟨w.heap.size, 2, none⟩ = some (.string ⟨name.toArray⟩) ∧ w'.cell? ⟨w.heap.size, 3, none⟩ = some (.slice AE e.length cE) ∧ w'.cell? ⟨w.heap.size, 4, none⟩ = some (.slice AF f.length cF) ∧ w'.cell? ⟨w.heap.size, 5, none⟩ = some (.int .i64 n) ∧ Below W.heap.size W w')
    (first | exact ⟨y0, y1, y2, y3, y4, y5, Below.refl _ _⟩ | exact ⟨y0, y1, y2, y3, y4, y5, below_drT _⟩ | exact keepS (w1 := W.drew) hW ⟨y0, y1, y2, y3, y4, y5, below_drT _⟩ hb | exact keepS hW (keepS (w1 := W.drew) hW ⟨y0, y1, y2, y3, y4, y5, below_drT _⟩ hb) hb2)
    (first
      | (have hbb := hb; clear hbb; go_at_call 98; refine (rShow_any _ f _ (HF.out.on (below_then HB0.out (below_then (below_drT _) hb))) HSF.out.1 HSF.out.2).mono ?_; rw [HSG.out]; rintro e1 w2 ⟨rfl, hb2⟩)
      | (go_at_call 98; refine (rShow_any _ e _ (HE.out.on (below_then HB0.out (below_drT _))) HSM.out.1 HSM.out.2).mono ?_; rw [HSH.out]; rintro e1 w1 ⟨rfl, hb⟩))
  go_wp2_with fail
  go_ret
  exact givesSB_of (l' := [99, 97, 115, 32] ++ reg ++ [32, 61, 32] ++ name ++ [44, 32] ++ sh ++ [44, 32] ++ sg) (by rw [← str_app, ← str_app, ← str_app, ← str_app, ← str_app, ← str_app, ← str_app]; rfl) HS.out.symm (below_then HB0.out (below_then (below_drT _) (below_then hb hb2)))

set_option maxRecDepth 100000 in
set_option maxHeartbeats 4000000 in
theorem rhead11 (reg name : List UInt8) (e f : List Nod) (n body els pl : Int) (AE : Option Addr) (cE : Nat) (AF : Option Addr) (cF : Nat) (w : World) (hE : ReadN w (.slice AE e.length cE) e) (he : rightL e = true) :
    Calls Tryz.prog 64 #[.agg #[.int .i64 11, .string ⟨reg.toArray⟩, .string ⟨name.toArray⟩, .slice AE e.length cE, .slice AF f.length cF, .int .i64 n, .int .i64 body, .int .i64 els, .int .i64 pl]] w (GivesSB (headS ⟨11, reg, name, e, f, n, body, els, pl⟩) w) := by
  have HE := Lib.hid hE
  obtain ⟨sh, hsh⟩ : ∃ sh, shownL e = sh := ⟨_, rfl⟩
  have HSH := Lib.hid hsh
  have hln := shownL_len he
  rw [hsh] at hln
  have HSM := Lib.hid (right_small he)
  clear hsh he
  have HKW : Hid (kwL ((11 : Nat) : Int) = [105, 102]) := Lib.hid (by decide)
  have HS : Hid (headS ⟨11, reg, name, e, f, n, body, els, pl⟩ = [105, 102] ++ [32] ++ sh) := Lib.hid (by simp [headS, kwL, kwTab, ← HSH.out])
  generalize headS ⟨11, reg, name, e, f, n, body, els, pl⟩ = S at *
  have hcat1 : ¬ (9223372036854775807 < 2 + 1) := by omega
  have hcat2 : ¬ (9223372036854775807 < 3 + sh.length) := by omega
  have hcat3 : ¬ (9223372036854775807 < 2 + 1 + sh.length) := by omega
  clear hE
  go_enter Tryz.func64, Tryz.ntmps64
  go_upto_region 12 with (fail)
  have HB0 := Lib.hid ((Below.refl w.heap.size w).alloc (Nat.le_refl _) (.cells #[.int .i64 11, .string ⟨reg.toArray⟩, .string ⟨name.toArray⟩, .slice AE e.length cE, .slice AF f.length cF, .int .i64 n, .int .i64 body, .int .i64 els, .int .i64 pl] 31))
  have N9 := Lib.hid (nine_new w (.int .i64 11) (.string ⟨reg.toArray⟩) (.string ⟨name.toArray⟩) (.slice AE e.length cE) (.slice AF f.length cF) (.int .i64 n) (.int .i64 body) (.int .i64 els) (.int .i64 pl) 31)
  generalize w.alloc (.cells #[.int .i64 11, .string ⟨reg.toArray⟩, .string ⟨name.toArray⟩, .slice AE e.length cE, .slice AF f.length cF, .int .i64 n, .int .i64 body, .int .i64 els, .int .i64 pl] 31) = W at *
  obtain ⟨hW, y0, y1, y2, y3, y4, y5, _, _, _⟩ := N9.out
  go_region_held3 (fun w' => w'.cell? ⟨w.heap.size, 0, none⟩ = some (.int .i64 11) ∧ w'.cell? ⟨w.heap.size, 1, none⟩ = some (.string ⟨reg.toArray⟩) ∧ w'.cell? ⟨w.heap.size, 2, none⟩ = some (.string ⟨name.toArray⟩) ∧ w'.cell? ⟨w.heap.size, 3, none⟩ = some (.slice AE e.length cE) ∧ w'.cell? ⟨w.heap.size, 4, none⟩ = some (.slice AF f.length cF) ∧ w'.cell? ⟨w.heap.size, 5, none⟩ = some (.int .i64 n) ∧ Below W.heap.size W w')
    (first | exact ⟨y0, y1, y2, y3, y4, y5, Below.refl _ _⟩ | exact ⟨y0, y1, y2, y3, y4, y5, below_drT _⟩ | exact keepS (w1 := W.drew) hW ⟨y0, y1, y2, y3, y4, y5, below_drT _⟩ hb | exact keepS hW (keepS (w1 := W.drew) hW ⟨y0, y1, y2, y3, y4, y5, below_drT _⟩ hb) hb2)
    (first
      | (have hbb := hb; clear hbb; go_at_call 98; refine (rShow_any _ e _ (HE.out.on (below_then HB0.out (below_then (below_drT _) hb))) HSM.out.1 HSM.out.2).mono ?_; rw [HSH.out]; rintro e1 w2 ⟨rfl, hb2⟩)
      | (go_at_call 69; refine (rword_any 11 _ (by omega) (by omega)).mono ?_; rw [HKW.out]; rintro e1 w1 ⟨rfl, hb⟩))
  go_wp2_with fail
  go_ret
  exact givesSB_of (l' := [105, 102] ++ [32] ++ sh) (by rw [← str_app, ← str_app]; rfl) HS.out.symm (below_then HB0.out (below_then (below_drT _) (below_then hb hb2)))

set_option maxRecDepth 100000 in
set_option maxHeartbeats 4000000 in
theorem rhead14 (reg name : List UInt8) (e f : List Nod) (n body els pl : Int) (AE : Option Addr) (cE : Nat) (AF : Option Addr) (cF : Nat) (w : World) (hE : ReadN w (.slice AE e.length cE) e) (he : rightL e = true) :
    Calls Tryz.prog 64 #[.agg #[.int .i64 14, .string ⟨reg.toArray⟩, .string ⟨name.toArray⟩, .slice AE e.length cE, .slice AF f.length cF, .int .i64 n, .int .i64 body, .int .i64 els, .int .i64 pl]] w (GivesSB (headS ⟨14, reg, name, e, f, n, body, els, pl⟩) w) := by
  have HE := Lib.hid hE
  obtain ⟨sh, hsh⟩ : ∃ sh, shownL e = sh := ⟨_, rfl⟩
  have HSH := Lib.hid hsh
  have hln := shownL_len he
  rw [hsh] at hln
  have HSM := Lib.hid (right_small he)
  clear hsh he
  have HKW : Hid (kwL ((14 : Nat) : Int) = [99, 104, 101, 99, 107]) := Lib.hid (by decide)
  have HS : Hid (headS ⟨14, reg, name, e, f, n, body, els, pl⟩ = [99, 104, 101, 99, 107] ++ [32] ++ sh) := Lib.hid (by simp [headS, kwL, kwTab, ← HSH.out])
  generalize headS ⟨14, reg, name, e, f, n, body, els, pl⟩ = S at *
  have hcat1 : ¬ (9223372036854775807 < 5 + 1) := by omega
  have hcat2 : ¬ (9223372036854775807 < 6 + sh.length) := by omega
  have hcat3 : ¬ (9223372036854775807 < 5 + 1 + sh.length) := by omega
  clear hE
  go_enter Tryz.func64, Tryz.ntmps64
  go_upto_region 12 with (fail)
  have HB0 := Lib.hid ((Below.refl w.heap.size w).alloc (Nat.le_refl _) (.cells #[.int .i64 14, .string ⟨reg.toArray⟩, .string ⟨name.toArray⟩, .slice AE e.length cE, .slice AF f.length cF, .int .i64 n, .int .i64 body, .int .i64 els, .int .i64 pl] 31))
  have N9 := Lib.hid (nine_new w (.int .i64 14) (.string ⟨reg.toArray⟩) (.string ⟨name.toArray⟩) (.slice AE e.length cE) (.slice AF f.length cF) (.int .i64 n) (.int .i64 body) (.int .i64 els) (.int .i64 pl) 31)
  generalize w.alloc (.cells #[.int .i64 14, .string ⟨reg.toArray⟩, .string ⟨name.toArray⟩, .slice AE e.length cE, .slice AF f.length cF, .int .i64 n, .int .i64 body, .int .i64 els, .int .i64 pl] 31) = W at *
  obtain ⟨hW, y0, y1, y2, y3, y4, y5, _, _, _⟩ := N9.out
  go_region_held3 (fun w' => w'.cell? ⟨w.heap.size, 0, none⟩ = some (.int .i64 14) ∧ w'.cell? ⟨w.heap.size, 1, none⟩ = some (.string ⟨reg.toArray⟩) ∧ w'.cell? ⟨w.heap.size, 2, none⟩ = some (.string ⟨name.toArray⟩) ∧ w'.cell? ⟨w.heap.size, 3, none⟩ = some (.slice AE e.length cE) ∧ w'.cell? ⟨w.heap.size, 4, none⟩ = some (.slice AF f.length cF) ∧ w'.cell? ⟨w.heap.size, 5, none⟩ = some (.int .i64 n) ∧ Below W.heap.size W w')
    (first | exact ⟨y0, y1, y2, y3, y4, y5, Below.refl _ _⟩ | exact ⟨y0, y1, y2, y3, y4, y5, below_drT _⟩ | exact keepS (w1 := W.drew) hW ⟨y0, y1, y2, y3, y4, y5, below_drT _⟩ hb | exact keepS hW (keepS (w1 := W.drew) hW ⟨y0, y1, y2, y3, y4, y5, below_drT _⟩ hb) hb2)
    (first
      | (have hbb := hb; clear hbb; go_at_call 98; refine (rShow_any _ e _ (HE.out.on (below_then HB0.out (below_then (below_drT _) hb))) HSM.out.1 HSM.out.2).mono ?_; rw [HSH.out]; rintro e1 w2 ⟨rfl, hb2⟩)
      | (go_at_call 69; refine (rword_any 14 _ (by omega) (by omega)).mono ?_; rw [HKW.out]; rintro e1 w1 ⟨rfl, hb⟩))
  go_wp2_with fail
  go_ret
  exact givesSB_of (l' := [99, 104, 101, 99, 107] ++ [32] ++ sh) (by rw [← str_app, ← str_app]; rfl) HS.out.symm (below_then HB0.out (below_then (below_drT _) (below_then hb hb2)))

set_option maxRecDepth 100000 in
set_option maxHeartbeats 4000000 in
theorem rhead7 (reg name : List UInt8) (e f : List Nod) (n body els pl : Int) (AE : Option Addr) (cE : Nat) (AF : Option Addr) (cF : Nat) (w : World)  :
    Calls Tryz.prog 64 #[.agg #[.int .i64 7, .string ⟨reg.toArray⟩, .string ⟨name.toArray⟩, .slice AE e.length cE, .slice AF f.length cF, .int .i64 n, .int .i64 body, .int .i64 els, .int .i64 pl]] w (GivesSB (headS ⟨7, reg, name, e, f, n, body, els, pl⟩) w) := by
  have HKW : Hid (kwL ((7 : Nat) : Int) = [115, 102, 101, 110, 99, 101]) := Lib.hid (by decide)
  have HS : Hid (headS ⟨7, reg, name, e, f, n, body, els, pl⟩ = [115, 102, 101, 110, 99, 101]) := Lib.hid (by simp [headS, kwL, kwTab])
  generalize headS ⟨7, reg, name, e, f, n, body, els, pl⟩ = S at *
  go_enter Tryz.func64, Tryz.ntmps64
  go_upto_region 18 with (fail)
  have HB0 := Lib.hid ((Below.refl w.heap.size w).alloc (Nat.le_refl _) (.cells #[.int .i64 7, .string ⟨reg.toArray⟩, .string ⟨name.toArray⟩, .slice AE e.length cE, .slice AF f.length cF, .int .i64 n, .int .i64 body, .int .i64 els, .int .i64 pl] 31))
  have N9 := Lib.hid (nine_new w (.int .i64 7) (.string ⟨reg.toArray⟩) (.string ⟨name.toArray⟩) (.slice AE e.length cE) (.slice AF f.length cF) (.int .i64 n) (.int .i64 body) (.int .i64 els) (.int .i64 pl) 31)
  generalize w.alloc (.cells #[.int .i64 7, .string ⟨reg.toArray⟩, .string ⟨name.toArray⟩, .slice AE e.length cE, .slice AF f.length cF, .int .i64 n, .int .i64 body, .int .i64 els, .int .i64 pl] 31) = W at *
  obtain ⟨hW, y0, y1, y2, y3, y4, y5, _, _, _⟩ := N9.out
  go_wp2_with fail
  refine (rword_any 7 _ (by omega) (by omega)).mono ?_
  rw [HKW.out]
  rintro e1 w1 ⟨rfl, hb⟩
  go_wp2_with fail
  go_ret
  exact givesSB_of (l' := [115, 102, 101, 110, 99, 101]) rfl HS.out.symm (below_then HB0.out hb)

set_option maxRecDepth 100000 in
set_option maxHeartbeats 4000000 in
theorem rhead8 (reg name : List UInt8) (e f : List Nod) (n body els pl : Int) (AE : Option Addr) (cE : Nat) (AF : Option Addr) (cF : Nat) (w : World)  :
    Calls Tryz.prog 64 #[.agg #[.int .i64 8, .string ⟨reg.toArray⟩, .string ⟨name.toArray⟩, .slice AE e.length cE, .slice AF f.length cF, .int .i64 n, .int .i64 body, .int .i64 els, .int .i64 pl]] w (GivesSB (headS ⟨8, reg, name, e, f, n, body, els, pl⟩) w) := by
  have HKW : Hid (kwL ((8 : Nat) : Int) = [109, 102, 101, 110, 99, 101]) := Lib.hid (by decide)
  have HS : Hid (headS ⟨8, reg, name, e, f, n, body, els, pl⟩ = [109, 102, 101, 110, 99, 101]) := Lib.hid (by simp [headS, kwL, kwTab])
  generalize headS ⟨8, reg, name, e, f, n, body, els, pl⟩ = S at *
  go_enter Tryz.func64, Tryz.ntmps64
  go_upto_region 18 with (fail)
  have HB0 := Lib.hid ((Below.refl w.heap.size w).alloc (Nat.le_refl _) (.cells #[.int .i64 8, .string ⟨reg.toArray⟩, .string ⟨name.toArray⟩, .slice AE e.length cE, .slice AF f.length cF, .int .i64 n, .int .i64 body, .int .i64 els, .int .i64 pl] 31))
  have N9 := Lib.hid (nine_new w (.int .i64 8) (.string ⟨reg.toArray⟩) (.string ⟨name.toArray⟩) (.slice AE e.length cE) (.slice AF f.length cF) (.int .i64 n) (.int .i64 body) (.int .i64 els) (.int .i64 pl) 31)
  generalize w.alloc (.cells #[.int .i64 8, .string ⟨reg.toArray⟩, .string ⟨name.toArray⟩, .slice AE e.length cE, .slice AF f.length cF, .int .i64 n, .int .i64 body, .int .i64 els, .int .i64 pl] 31) = W at *
  obtain ⟨hW, y0, y1, y2, y3, y4, y5, _, _, _⟩ := N9.out
  go_wp2_with fail
  refine (rword_any 8 _ (by omega) (by omega)).mono ?_
  rw [HKW.out]
  rintro e1 w1 ⟨rfl, hb⟩
  go_wp2_with fail
  go_ret
  exact givesSB_of (l' := [109, 102, 101, 110, 99, 101]) rfl HS.out.symm (below_then HB0.out hb)

set_option maxRecDepth 100000 in
set_option maxHeartbeats 4000000 in
theorem rhead13 (reg name : List UInt8) (e f : List Nod) (n body els pl : Int) (AE : Option Addr) (cE : Nat) (AF : Option Addr) (cF : Nat) (w : World)  :
    Calls Tryz.prog 64 #[.agg #[.int .i64 13, .string ⟨reg.toArray⟩, .string ⟨name.toArray⟩, .slice AE e.length cE, .slice AF f.length cF, .int .i64 n, .int .i64 body, .int .i64 els, .int .i64 pl]] w (GivesSB (headS ⟨13, reg, name, e, f, n, body, els, pl⟩) w) := by
  have HKW : Hid (kwL ((13 : Nat) : Int) = [98, 114, 101, 97, 107]) := Lib.hid (by decide)
  have HS : Hid (headS ⟨13, reg, name, e, f, n, body, els, pl⟩ = [98, 114, 101, 97, 107]) := Lib.hid (by simp [headS, kwL, kwTab])
  generalize headS ⟨13, reg, name, e, f, n, body, els, pl⟩ = S at *
  go_enter Tryz.func64, Tryz.ntmps64
  go_upto_region 18 with (fail)
  have HB0 := Lib.hid ((Below.refl w.heap.size w).alloc (Nat.le_refl _) (.cells #[.int .i64 13, .string ⟨reg.toArray⟩, .string ⟨name.toArray⟩, .slice AE e.length cE, .slice AF f.length cF, .int .i64 n, .int .i64 body, .int .i64 els, .int .i64 pl] 31))
  have N9 := Lib.hid (nine_new w (.int .i64 13) (.string ⟨reg.toArray⟩) (.string ⟨name.toArray⟩) (.slice AE e.length cE) (.slice AF f.length cF) (.int .i64 n) (.int .i64 body) (.int .i64 els) (.int .i64 pl) 31)
  generalize w.alloc (.cells #[.int .i64 13, .string ⟨reg.toArray⟩, .string ⟨name.toArray⟩, .slice AE e.length cE, .slice AF f.length cF, .int .i64 n, .int .i64 body, .int .i64 els, .int .i64 pl] 31) = W at *
  obtain ⟨hW, y0, y1, y2, y3, y4, y5, _, _, _⟩ := N9.out
  go_wp2_with fail
  refine (rword_any 13 _ (by omega) (by omega)).mono ?_
  rw [HKW.out]
  rintro e1 w1 ⟨rfl, hb⟩
  go_wp2_with fail
  go_ret
  exact givesSB_of (l' := [98, 114, 101, 97, 107]) rfl HS.out.symm (below_then HB0.out hb)

set_option maxRecDepth 100000 in
set_option maxHeartbeats 4000000 in
theorem rhead5 (reg name : List UInt8) (e f : List Nod) (n body els pl : Int) (AE : Option Addr) (cE : Nat) (AF : Option Addr) (cF : Nat) (w : World) (hn : nameB name = true) :
    Calls Tryz.prog 64 #[.agg #[.int .i64 5, .string ⟨reg.toArray⟩, .string ⟨name.toArray⟩, .slice AE e.length cE, .slice AF f.length cF, .int .i64 n, .int .i64 body, .int .i64 els, .int .i64 pl]] w (GivesSB (headS ⟨5, reg, name, e, f, n, body, els, pl⟩) w) := by
  have hnl := name_len hn
  have HKW : Hid (kwL ((5 : Nat) : Int) = [102, 108, 117, 115, 104]) := Lib.hid (by decide)
  have HS : Hid (headS ⟨5, reg, name, e, f, n, body, els, pl⟩ = [102, 108, 117, 115, 104] ++ [32] ++ name) := Lib.hid (by simp [headS, kwL, kwTab])
  generalize headS ⟨5, reg, name, e, f, n, body, els, pl⟩ = S at *
  have hcat1 : ¬ (9223372036854775807 < 5 + 1) := by omega
  have hcat2 : ¬ (9223372036854775807 < 6 + name.length) := by omega
  have hcat3 : ¬ (9223372036854775807 < 5 + 1 + name.length) := by omega
  clear hn
  go_enter Tryz.func64, Tryz.ntmps64
  go_upto_region 19 with (fail)
  have HB0 := Lib.hid ((Below.refl w.heap.size w).alloc (Nat.le_refl _) (.cells #[.int .i64 5, .string ⟨reg.toArray⟩, .string ⟨name.toArray⟩, .slice AE e.length cE, .slice AF f.length cF, .int .i64 n, .int .i64 body, .int .i64 els, .int .i64 pl] 31))
  have N9 := Lib.hid (nine_new w (.int .i64 5) (.string ⟨reg.toArray⟩) (.string ⟨name.toArray⟩) (.slice AE e.length cE) (.slice AF f.length cF) (.int .i64 n) (.int .i64 body) (.int .i64 els) (.int .i64 pl) 31)
  generalize w.alloc (.cells #[.int .i64 5, .string ⟨reg.toArray⟩, .string ⟨name.toArray⟩, .slice AE e.length cE, .slice AF f.length cF, .int .i64 n, .int .i64 body, .int .i64 els, .int .i64 pl] 31) = W at *
  obtain ⟨hW, y0, y1, y2, y3, y4, y5, _, _, _⟩ := N9.out
  go_region_held3 (fun w' => w'.cell? ⟨w.heap.size, 0, none⟩ = some (.int .i64 5) ∧ w'.cell? ⟨w.heap.size, 1, none⟩ = some (.string ⟨reg.toArray⟩) ∧ w'.cell? ⟨w.heap.size, 2, none⟩ = some (.string ⟨name.toArray⟩) ∧ w'.cell? ⟨w.heap.size, 3, none⟩ = some (.slice AE e.length cE) ∧ w'.cell? ⟨w.heap.size, 4, none⟩ = some (.slice AF f.length cF) ∧ w'.cell? ⟨w.heap.size, 5, none⟩ = some (.int .i64 n) ∧ Below W.heap.size W w')
    (first | exact ⟨y0, y1, y2, y3, y4, y5, Below.refl _ _⟩ | exact ⟨y0, y1, y2, y3, y4, y5, below_drT _⟩ | exact keepS (w1 := W.drew) hW ⟨y0, y1, y2, y3, y4, y5, below_drT _⟩ hb | exact keepS hW (keepS (w1 := W.drew) hW ⟨y0, y1, y2, y3, y4, y5, below_drT _⟩ hb) hb2)
    (first
      | (go_at_call 69; refine (rword_any 5 _ (by omega) (by omega)).mono ?_; rw [HKW.out]; rintro e1 w1 ⟨rfl, hb⟩))
  go_wp2_with fail
  go_ret
  exact givesSB_of (l' := [102, 108, 117, 115, 104] ++ [32] ++ name) (by rw [← str_app, ← str_app]; rfl) HS.out.symm (below_then HB0.out (below_then (below_drT _) hb))

set_option maxRecDepth 100000 in
set_option maxHeartbeats 4000000 in
theorem rhead6 (reg name : List UInt8) (e f : List Nod) (n body els pl : Int) (AE : Option Addr) (cE : Nat) (AF : Option Addr) (cF : Nat) (w : World) (hn : nameB name = true) :
    Calls Tryz.prog 64 #[.agg #[.int .i64 6, .string ⟨reg.toArray⟩, .string ⟨name.toArray⟩, .slice AE e.length cE, .slice AF f.length cF, .int .i64 n, .int .i64 body, .int .i64 els, .int .i64 pl]] w (GivesSB (headS ⟨6, reg, name, e, f, n, body, els, pl⟩) w) := by
  have hnl := name_len hn
  have HKW : Hid (kwL ((6 : Nat) : Int) = [111, 112, 116]) := Lib.hid (by decide)
  have HS : Hid (headS ⟨6, reg, name, e, f, n, body, els, pl⟩ = [111, 112, 116] ++ [32] ++ name) := Lib.hid (by simp [headS, kwL, kwTab])
  generalize headS ⟨6, reg, name, e, f, n, body, els, pl⟩ = S at *
  have hcat1 : ¬ (9223372036854775807 < 3 + 1) := by omega
  have hcat2 : ¬ (9223372036854775807 < 4 + name.length) := by omega
  have hcat3 : ¬ (9223372036854775807 < 3 + 1 + name.length) := by omega
  clear hn
  go_enter Tryz.func64, Tryz.ntmps64
  go_upto_region 19 with (fail)
  have HB0 := Lib.hid ((Below.refl w.heap.size w).alloc (Nat.le_refl _) (.cells #[.int .i64 6, .string ⟨reg.toArray⟩, .string ⟨name.toArray⟩, .slice AE e.length cE, .slice AF f.length cF, .int .i64 n, .int .i64 body, .int .i64 els, .int .i64 pl] 31))
  have N9 := Lib.hid (nine_new w (.int .i64 6) (.string ⟨reg.toArray⟩) (.string ⟨name.toArray⟩) (.slice AE e.length cE) (.slice AF f.length cF) (.int .i64 n) (.int .i64 body) (.int .i64 els) (.int .i64 pl) 31)
  generalize w.alloc (.cells #[.int .i64 6, .string ⟨reg.toArray⟩, .string ⟨name.toArray⟩, .slice AE e.length cE, .slice AF f.length cF, .int .i64 n, .int .i64 body, .int .i64 els, .int .i64 pl] 31) = W at *
  obtain ⟨hW, y0, y1, y2, y3, y4, y5, _, _, _⟩ := N9.out
  go_region_held3 (fun w' => w'.cell? ⟨w.heap.size, 0, none⟩ = some (.int .i64 6) ∧ w'.cell? ⟨w.heap.size, 1, none⟩ = some (.string ⟨reg.toArray⟩) ∧ w'.cell? ⟨w.heap.size, 2, none⟩ = some (.string ⟨name.toArray⟩) ∧ w'.cell? ⟨w.heap.size, 3, none⟩ = some (.slice AE e.length cE) ∧ w'.cell? ⟨w.heap.size, 4, none⟩ = some (.slice AF f.length cF) ∧ w'.cell? ⟨w.heap.size, 5, none⟩ = some (.int .i64 n) ∧ Below W.heap.size W w')
    (first | exact ⟨y0, y1, y2, y3, y4, y5, Below.refl _ _⟩ | exact ⟨y0, y1, y2, y3, y4, y5, below_drT _⟩ | exact keepS (w1 := W.drew) hW ⟨y0, y1, y2, y3, y4, y5, below_drT _⟩ hb | exact keepS hW (keepS (w1 := W.drew) hW ⟨y0, y1, y2, y3, y4, y5, below_drT _⟩ hb) hb2)
    (first
      | (go_at_call 69; refine (rword_any 6 _ (by omega) (by omega)).mono ?_; rw [HKW.out]; rintro e1 w1 ⟨rfl, hb⟩))
  go_wp2_with fail
  go_ret
  exact givesSB_of (l' := [111, 112, 116] ++ [32] ++ name) (by rw [← str_app, ← str_app]; rfl) HS.out.symm (below_then HB0.out (below_then (below_drT _) hb))

set_option maxRecDepth 100000 in
set_option maxHeartbeats 4000000 in
theorem rhead9 (reg name : List UInt8) (e f : List Nod) (n body els pl : Int) (AE : Option Addr) (cE : Nat) (AF : Option Addr) (cF : Nat) (w : World) (hn : nameB name = true) :
    Calls Tryz.prog 64 #[.agg #[.int .i64 9, .string ⟨reg.toArray⟩, .string ⟨name.toArray⟩, .slice AE e.length cE, .slice AF f.length cF, .int .i64 n, .int .i64 body, .int .i64 els, .int .i64 pl]] w (GivesSB (headS ⟨9, reg, name, e, f, n, body, els, pl⟩) w) := by
  have hnl := name_len hn
  have HKW : Hid (kwL ((9 : Nat) : Int) = [116, 97, 107, 101]) := Lib.hid (by decide)
  have HS : Hid (headS ⟨9, reg, name, e, f, n, body, els, pl⟩ = [116, 97, 107, 101] ++ [32] ++ name) := Lib.hid (by simp [headS, kwL, kwTab])
  generalize headS ⟨9, reg, name, e, f, n, body, els, pl⟩ = S at *
  have hcat1 : ¬ (9223372036854775807 < 4 + 1) := by omega
  have hcat2 : ¬ (9223372036854775807 < 5 + name.length) := by omega
  have hcat3 : ¬ (9223372036854775807 < 4 + 1 + name.length) := by omega
  clear hn
  go_enter Tryz.func64, Tryz.ntmps64
  go_upto_region 19 with (fail)
  have HB0 := Lib.hid ((Below.refl w.heap.size w).alloc (Nat.le_refl _) (.cells #[.int .i64 9, .string ⟨reg.toArray⟩, .string ⟨name.toArray⟩, .slice AE e.length cE, .slice AF f.length cF, .int .i64 n, .int .i64 body, .int .i64 els, .int .i64 pl] 31))
  have N9 := Lib.hid (nine_new w (.int .i64 9) (.string ⟨reg.toArray⟩) (.string ⟨name.toArray⟩) (.slice AE e.length cE) (.slice AF f.length cF) (.int .i64 n) (.int .i64 body) (.int .i64 els) (.int .i64 pl) 31)
  generalize w.alloc (.cells #[.int .i64 9, .string ⟨reg.toArray⟩, .string ⟨name.toArray⟩, .slice AE e.length cE, .slice AF f.length cF, .int .i64 n, .int .i64 body, .int .i64 els, .int .i64 pl] 31) = W at *
  obtain ⟨hW, y0, y1, y2, y3, y4, y5, _, _, _⟩ := N9.out
  go_region_held3 (fun w' => w'.cell? ⟨w.heap.size, 0, none⟩ = some (.int .i64 9) ∧ w'.cell? ⟨w.heap.size, 1, none⟩ = some (.string ⟨reg.toArray⟩) ∧ w'.cell? ⟨w.heap.size, 2, none⟩ = some (.string ⟨name.toArray⟩) ∧ w'.cell? ⟨w.heap.size, 3, none⟩ = some (.slice AE e.length cE) ∧ w'.cell? ⟨w.heap.size, 4, none⟩ = some (.slice AF f.length cF) ∧ w'.cell? ⟨w.heap.size, 5, none⟩ = some (.int .i64 n) ∧ Below W.heap.size W w')
    (first | exact ⟨y0, y1, y2, y3, y4, y5, Below.refl _ _⟩ | exact ⟨y0, y1, y2, y3, y4, y5, below_drT _⟩ | exact keepS (w1 := W.drew) hW ⟨y0, y1, y2, y3, y4, y5, below_drT _⟩ hb | exact keepS hW (keepS (w1 := W.drew) hW ⟨y0, y1, y2, y3, y4, y5, below_drT _⟩ hb) hb2)
    (first
      | (go_at_call 69; refine (rword_any 9 _ (by omega) (by omega)).mono ?_; rw [HKW.out]; rintro e1 w1 ⟨rfl, hb⟩))
  go_wp2_with fail
  go_ret
  exact givesSB_of (l' := [116, 97, 107, 101] ++ [32] ++ name) (by rw [← str_app, ← str_app]; rfl) HS.out.symm (below_then HB0.out (below_then (below_drT _) hb))

set_option maxRecDepth 100000 in
set_option maxHeartbeats 4000000 in
theorem rhead10 (reg name : List UInt8) (e f : List Nod) (n body els pl : Int) (AE : Option Addr) (cE : Nat) (AF : Option Addr) (cF : Nat) (w : World) (hn : nameB name = true) :
    Calls Tryz.prog 64 #[.agg #[.int .i64 10, .string ⟨reg.toArray⟩, .string ⟨name.toArray⟩, .slice AE e.length cE, .slice AF f.length cF, .int .i64 n, .int .i64 body, .int .i64 els, .int .i64 pl]] w (GivesSB (headS ⟨10, reg, name, e, f, n, body, els, pl⟩) w) := by
  have hnl := name_len hn
  have HKW : Hid (kwL ((10 : Nat) : Int) = [103, 105, 118, 101]) := Lib.hid (by decide)
  have HS : Hid (headS ⟨10, reg, name, e, f, n, body, els, pl⟩ = [103, 105, 118, 101] ++ [32] ++ name) := Lib.hid (by simp [headS, kwL, kwTab])
  generalize headS ⟨10, reg, name, e, f, n, body, els, pl⟩ = S at *
  have hcat1 : ¬ (9223372036854775807 < 4 + 1) := by omega
  have hcat2 : ¬ (9223372036854775807 < 5 + name.length) := by omega
  have hcat3 : ¬ (9223372036854775807 < 4 + 1 + name.length) := by omega
  clear hn
  go_enter Tryz.func64, Tryz.ntmps64
  go_upto_region 19 with (fail)
  have HB0 := Lib.hid ((Below.refl w.heap.size w).alloc (Nat.le_refl _) (.cells #[.int .i64 10, .string ⟨reg.toArray⟩, .string ⟨name.toArray⟩, .slice AE e.length cE, .slice AF f.length cF, .int .i64 n, .int .i64 body, .int .i64 els, .int .i64 pl] 31))
  have N9 := Lib.hid (nine_new w (.int .i64 10) (.string ⟨reg.toArray⟩) (.string ⟨name.toArray⟩) (.slice AE e.length cE) (.slice AF f.length cF) (.int .i64 n) (.int .i64 body) (.int .i64 els) (.int .i64 pl) 31)
  generalize w.alloc (.cells #[.int .i64 10, .string ⟨reg.toArray⟩, .string ⟨name.toArray⟩, .slice AE e.length cE, .slice AF f.length cF, .int .i64 n, .int .i64 body, .int .i64 els, .int .i64 pl] 31) = W at *
  obtain ⟨hW, y0, y1, y2, y3, y4, y5, _, _, _⟩ := N9.out
  go_region_held3 (fun w' => w'.cell? ⟨w.heap.size, 0, none⟩ = some (.int .i64 10) ∧ w'.cell? ⟨w.heap.size, 1, none⟩ = some (.string ⟨reg.toArray⟩) ∧ w'.cell? ⟨w.heap.size, 2, none⟩ = some (.string ⟨name.toArray⟩) ∧ w'.cell? ⟨w.heap.size, 3, none⟩ = some (.slice AE e.length cE) ∧ w'.cell? ⟨w.heap.size, 4, none⟩ = some (.slice AF f.length cF) ∧ w'.cell? ⟨w.heap.size, 5, none⟩ = some (.int .i64 n) ∧ Below W.heap.size W w')
    (first | exact ⟨y0, y1, y2, y3, y4, y5, Below.refl _ _⟩ | exact ⟨y0, y1, y2, y3, y4, y5, below_drT _⟩ | exact keepS (w1 := W.drew) hW ⟨y0, y1, y2, y3, y4, y5, below_drT _⟩ hb | exact keepS hW (keepS (w1 := W.drew) hW ⟨y0, y1, y2, y3, y4, y5, below_drT _⟩ hb) hb2)
    (first
      | (go_at_call 69; refine (rword_any 10 _ (by omega) (by omega)).mono ?_; rw [HKW.out]; rintro e1 w1 ⟨rfl, hb⟩))
  go_wp2_with fail
  go_ret
  exact givesSB_of (l' := [103, 105, 118, 101] ++ [32] ++ name) (by rw [← str_app, ← str_app]; rfl) HS.out.symm (below_then HB0.out (below_then (below_drT _) hb))

set_option maxRecDepth 100000 in
set_option maxHeartbeats 4000000 in
theorem rhead12 (reg name : List UInt8) (e f : List Nod) (n body els pl : Int) (AE : Option Addr) (cE : Nat) (AF : Option Addr) (cF : Nat) (w : World) (hn8 : 1 ≤ n ∧ n ≤ 8) :
    Calls Tryz.prog 64 #[.agg #[.int .i64 12, .string ⟨reg.toArray⟩, .string ⟨name.toArray⟩, .slice AE e.length cE, .slice AF f.length cF, .int .i64 n, .int .i64 body, .int .i64 els, .int .i64 pl]] w (GivesSB (headS ⟨12, reg, name, e, f, n, body, els, pl⟩) w) := by
  have hil : (Lib.itoa n).length ≤ 20 := by
    obtain ⟨u, rfl⟩ : ∃ u : Nat, n = u := ⟨n.toNat, by omega⟩
    rw [Lib.itoa_nonneg, dec_small (by omega)]; simp
  have HS : Hid (headS ⟨12, reg, name, e, f, n, body, els, pl⟩ = [108, 111, 111, 112, 32] ++ Lib.itoa n) := Lib.hid (by simp [headS, kwL, kwTab])
  generalize headS ⟨12, reg, name, e, f, n, body, els, pl⟩ = S at *
  have HTX : Hid (∀ wx, Calls Tryz.prog 99 #[.int .i64 n] wx (GivesSB (Lib.itoa n) wx)) := Lib.hid (fun wx => rtext_any n.natAbs n rfl (by omega) (by omega) wx)
  generalize Lib.itoa n = tx at *
  have hcat1 : ¬ (9223372036854775807 < 5 + tx.length) := by omega
  go_enter Tryz.func64, Tryz.ntmps64
  go_upto_region 14 with (fail)
  have HB0 := Lib.hid ((Below.refl w.heap.size w).alloc (Nat.le_refl _) (.cells #[.int .i64 12, .string ⟨reg.toArray⟩, .string ⟨name.toArray⟩, .slice AE e.length cE, .slice AF f.length cF, .int .i64 n, .int .i64 body, .int .i64 els, .int .i64 pl] 31))
  have N9 := Lib.hid (nine_new w (.int .i64 12) (.string ⟨reg.toArray⟩) (.string ⟨name.toArray⟩) (.slice AE e.length cE) (.slice AF f.length cF) (.int .i64 n) (.int .i64 body) (.int .i64 els) (.int .i64 pl) 31)
  generalize w.alloc (.cells #[.int .i64 12, .string ⟨reg.toArray⟩, .string ⟨name.toArray⟩, .slice AE e.length cE, .slice AF f.length cF, .int .i64 n, .int .i64 body, .int .i64 els, .int .i64 pl] 31) = W at *
  obtain ⟨hW, y0, y1, y2, y3, y4, y5, _, _, _⟩ := N9.out
  go_wp2_with fail
  refine (HTX.out _).mono ?_
  rintro e1 w1 ⟨rfl, hb⟩
  go_wp2_with fail
  go_ret
  exact givesSB_of (l' := [108, 111, 111, 112, 32] ++ tx) (by rw [← str_app]; rfl) HS.out.symm (below_then HB0.out hb)

theorem rhead_any (x : Stm) (vE vF : Value) (w : World) (hE : ReadN w vE x.e) (hF : ReadN w vF x.f) (h : fitS x = true) : Calls Tryz.prog 64 #[stmV x vE vF] w (GivesSB (headS x) w) := by
  obtain ⟨k, hk, h1, h2⟩ := fit_kind h
  obtain ⟨_, _, _, hr, hn, he, hf, ht⟩ := fit_inv hk h
  obtain ⟨xk, reg, name, e, f, n, body, els, pl⟩ := x
  have hE' := hE
  have hF' := hF
  obtain ⟨AE, cE, rfl, _⟩ := hE'
  obtain ⟨AF, cF, rfl, _⟩ := hF'
  simp only at hk hr hn he hf ht hE hF
  subst hk
  unfold stmV
  simp only
  have hkk : k = 1 ∨ k = 2 ∨ k = 3 ∨ k = 4 ∨ k = 5 ∨ k = 6 ∨ k = 7 ∨ k = 8 ∨ k = 9 ∨ k = 10 ∨ k = 11 ∨ k = 12 ∨ k = 13 ∨ k = 14 := by omega
  clear h1 h2
  rcases hkk with rfl | rfl | rfl | rfl | rfl | rfl | rfl | rfl | rfl | rfl | rfl | rfl | rfl | rfl
  · exact rhead1 _ _ _ _ _ _ _ _ _ _ _ _ _ hE hr he
  · exact rhead2 _ _ _ _ _ _ _ _ _ _ _ _ _ hr hn
  · exact rhead3 _ _ _ _ _ _ _ _ _ _ _ _ _ hE hn he
  · exact rhead4 _ _ _ _ _ _ _ _ _ _ _ _ _ hE hF hr hn he hf
  · exact rhead5 _ _ _ _ _ _ _ _ _ _ _ _ _ hn
  · exact rhead6 _ _ _ _ _ _ _ _ _ _ _ _ _ hn
  · exact rhead7 _ _ _ _ _ _ _ _ _ _ _ _ _
  · exact rhead8 _ _ _ _ _ _ _ _ _ _ _ _ _
  · exact rhead9 _ _ _ _ _ _ _ _ _ _ _ _ _ hn
  · exact rhead10 _ _ _ _ _ _ _ _ _ _ _ _ _ hn
  · exact rhead11 _ _ _ _ _ _ _ _ _ _ _ _ _ hE he
  · exact rhead12 _ _ _ _ _ _ _ _ _ _ _ _ _ (by simpa using ht)
  · exact rhead13 _ _ _ _ _ _ _ _ _ _ _ _ _
  · exact rhead14 _ _ _ _ _ _ _ _ _ _ _ _ _ hE he
end Go.Proofs.YtpeohfgadnfnpaaGreatDoor
