/-
  DERIVED. Layer 3: the document's Floor (leadlineref03): its last floor, and a first operand that is wrong.
-/
import Derived.Test.YtpeohfgadnfnpaaGreatDoorQ40
import Derived.Test.YtpeohfgadnfnpaaGreatDoorQ31
import Derived.Deep.RegionHeld3
namespace Go.Proofs.YtpeohfgadnfnpaaGreatDoor
open Go.RowKit

set_option maxRecDepth 100000 in
set_option maxHeartbeats 4000000 in
theorem floor_five (L : List Tok) (f : Nat) (hp : PrimeSays L f) (i d : Nat) (r : Res) (v : Value) (w : World) (hd : d ≤ 12) (hr : singleF L f i d = some r) (h : ReadT w v L) : Calls Tryz.prog 140 #[v, .int .i64 i, .int .i64 d, .int .i64 5] w (RGives L r w) := by
  have HR := Lib.hid h
  have HF := Lib.hid hp
  have HR1 := Lib.hid hr
  have HB0 := Lib.hid ((Below.refl w.heap.size w).alloc (Nat.le_refl _) (.cells #[.slice none 0 0, .int .i64 0, .int .i64 0, .int .i64 0] 160))
  have HP0 := Lib.hid (pq_new w (.slice none 0 0) (.int .i64 0) (.int .i64 0) (.int .i64 0) 160)
  clear h hp hr
  go_enter Tryz.func140, Tryz.ntmps140
  go_wp2_with fail
  refine (HF.out i d r _ _ hd HR1.out (HR.out.on HB0.out)).mono ?_
  rintro e w1 ⟨A1, n1, c1, rfl, ho, hb⟩
  have hWl := HP0.out.lt
  have HO : Hid (OwnN w1 (w.heap.size + 1) (.slice A1 n1 c1) (nodesOf r)) := Lib.hid (ho.base hWl)
  replace HB0 := Lib.hid (below_then HB0.out hb)
  obtain ⟨p0, p1, p2, p3, p4, p5, p6, p7, p8⟩ := HP0.out.on hb
  have HT : Hid (toOf r = toOf r) := Lib.hid rfl
  clear hb ho hWl
  go_wp2_with fail
  refine bodyPost_ret (v := .agg #[.slice A1 n1 c1, .int .i64 (toOf r : Nat), .int .i64 (errOf r), .int .i64 (plOf L r)]) (by simp [results, Tryz.results140, go_sem, *]) rfl ?_
  exact rgives_box (r := r) HO.out HB0.out rfl rfl rfl _ _ _ _

set_option maxRecDepth 100000 in
set_option maxHeartbeats 4000000 in
theorem floor_bad (L : List Tok) (f n i d : Nat) (hf : FloorSays L f) (er : Int) (j : Nat) (v : Value) (w : World) (hn : n < 5) (hd : d ≤ 12) (hr : chainF L f (n + 1 + 1) i d = some (.bad er j)) (h : ReadT w v L) : Calls Tryz.prog 140 #[v, .int .i64 i, .int .i64 d, .int .i64 n] w (RGives L (.bad er j) w) := by
  have HR := Lib.hid h
  have HF := Lib.hid hf
  have HR1 := Lib.hid hr
  have her := fine_err ((fine_all L f).1 _ _ _ _ (by omega) (by omega) hr)
  have her2 : (er == 0) = false := by simpa using her
  have HB0 := Lib.hid ((Below.refl w.heap.size w).alloc (Nat.le_refl _) (.cells #[.slice none 0 0, .int .i64 0, .int .i64 0, .int .i64 0] 160))
  have HP0 := Lib.hid (pq_new w (.slice none 0 0) (.int .i64 0) (.int .i64 0) (.int .i64 0) 160)
  have f5 : ((n : Int) == 5) = false := beq_eq_false_iff_ne.2 (by omega)
  clear h hf hr
  go_enter Tryz.func140, Tryz.ntmps140
  go_wp2_with fail
  refine (HF.out (n + 1) i d (.bad er j) _ _ (by omega) hd HR1.out (HR.out.on HB0.out)).mono ?_
  rintro e w1 ⟨A1, n1, c1, rfl, ho, hb⟩
  have hWl := HP0.out.lt
  have HO : Hid (OwnN w1 (w.heap.size + 1) (.slice A1 n1 c1) (nodesOf (.bad er j))) := Lib.hid (ho.base hWl)
  replace HB0 := Lib.hid (below_then HB0.out hb)
  replace HP0 := Lib.hid (HP0.out.on hb)
  have HPL : Hid (plOf L (.bad er j) = plOf L (.bad er j)) := Lib.hid rfl
  generalize hpl : plOf L (.bad er j) = pl at *
  have HPLE := Lib.hid hpl
  clear hb ho hWl hpl
  simp only [toOf, errOf] at *
  go_wp2_with fail
  have HBX := Lib.hid (HB0.out.alloc HB0.out.size (.cells #[.slice A1 n1 c1, .int .i64 ((0 : Nat) : Int), .int .i64 er, .int .i64 pl] 160))
  have hbx := (Below.refl w1.heap.size w1).alloc (Nat.le_refl _) (.cells #[.slice A1 n1 c1, .int .i64 ((0 : Nat) : Int), .int .i64 er, .int .i64 pl] 160)
  have HPX := Lib.hid (pq_new w1 (.slice A1 n1 c1) (.int .i64 ((0 : Nat) : Int)) (.int .i64 er) (.int .i64 pl) 160)
  have HPR := Lib.hid (HP0.out.on hbx)
  have HOX := Lib.hid (HO.out.on hbx)
  clear hbx
  generalize hX : w1.alloc (.cells #[.slice A1 n1 c1, .int .i64 ((0 : Nat) : Int), .int .i64 er, .int .i64 pl] 160) = X at *
  clear hX
  go_loopw [10] (fun _ wr => wr = X) (fun _ _ => 0)
  case atStart => rfl
  case round =>
    subst hrel
    obtain ⟨p0, p1, p2, p3, p4, p5, p6, p7, p8⟩ := HPR.out
    obtain ⟨z0, z1, z2, z3, z4, z5, z6, z7, z8⟩ := HPX.out
    go_wp2_with fail
    refine bodyPost_ret (v := .agg #[.slice A1 n1 c1, .int .i64 ((0 : Nat) : Int), .int .i64 er, .int .i64 pl]) (by simp [results, Tryz.results140, go_sem, *]) rfl ?_
    exact rgives_box (r := .bad er j) HOX.out HBX.out rfl rfl HPLE.out.symm _ _ _ _
end Go.Proofs.YtpeohfgadnfnpaaGreatDoor
