/-
  DERIVED. Layer 3: the calls whose answers the document fixes: each of them answers so, whatever the world that holds the tables.
-/
import Derived.Test.YtcmbcbdijmknnaaDoorParse
import Derived.Test.YtcmbcbdijmknnaaDoorAlike
import Derived.Test.YtcmbcbdijmknnaaDoorRefScan
namespace Go.Proofs.YtcmbcbdijmknnaaDoor
open Go.RowKit

/-- What the laws' tokens come back with. -/
def GivesT (l : List Tok) (w : World) (e : Ending) (w' : World) : Prop := ∃ v, e = .returned v ∧ OwnT w' w.heap.size v l ∧ Below w.heap.size w w'
set_option maxHeartbeats 1000000 in
theorem tokens_any (s : ByteArray) (w : World) (hs : s.size ≤ 4000) : Calls Tryd.prog 11 #[.string s] w (GivesT (scanL s.data.toList 0).toks w) := by
  generalize hf : scanL s.data.toList 0 = f
  have HF := Lib.hid hf
  clear hf
  go_enter Tryd.func11, Tryd.ntmps11
  go_wp2_with fail
  refine (rscan_any s _ hs).mono ?_
  rw [HF.out]
  rintro e w1 ⟨v, rfl, ho, hb⟩
  have HO := Lib.hid ho
  have HB := Lib.hid hb
  clear ho hb
  go_wp2_with fail
  go_ret
  exact ⟨v, rfl, HO.out, HB.out⟩
/-- A law's end: it is true, and nothing that was there has turned. -/
def IsTrue (w : World) (e : Ending) (w' : World) : Prop := e = .returned (.bool true) ∧ Below w.heap.size w w'
instance (L : List Tok) : Decidable (SmallT L) := by unfold SmallT; infer_instance
instance (L : List Nod) : Decidable (SmallN L) := by unfold SmallN; infer_instance

def tk1 : List Tok := (scanL #[97, 32, 43, 32, 98, 32, 42, 32, 50, 32, 59].toList 0).toks
theorem ft1 (w : World) : Calls Tryd.prog 11 #[.string ⟨#[97, 32, 43, 32, 98, 32, 42, 32, 50, 32, 59]⟩] w (GivesT tk1 w) := tokens_any ⟨#[97, 32, 43, 32, 98, 32, 42, 32, 50, 32, 59]⟩ w (by decide)
theorem fits1 : tk1.length ≤ 10000 ∧ SmallT tk1 := by decide +kernel
def tk2 : List Tok := (scanL #[45, 97, 32, 42, 32, 98].toList 0).toks
theorem ft2 (w : World) : Calls Tryd.prog 11 #[.string ⟨#[45, 97, 32, 42, 32, 98]⟩] w (GivesT tk2 w) := tokens_any ⟨#[45, 97, 32, 42, 32, 98]⟩ w (by decide)
theorem fits2 : tk2.length ≤ 10000 ∧ SmallT tk2 := by decide +kernel
def tk3 : List Tok := (scanL #[40, 97, 32, 43, 32, 59].toList 0).toks
theorem ft3 (w : World) : Calls Tryd.prog 11 #[.string ⟨#[40, 97, 32, 43, 32, 59]⟩] w (GivesT tk3 w) := tokens_any ⟨#[40, 97, 32, 43, 32, 59]⟩ w (by decide)
theorem fits3 : tk3.length ≤ 10000 ∧ SmallT tk3 := by decide +kernel
def tk4 : List Tok := (scanL #[97, 32, 60].toList 0).toks
theorem ft4 (w : World) : Calls Tryd.prog 11 #[.string ⟨#[97, 32, 60]⟩] w (GivesT tk4 w) := tokens_any ⟨#[97, 32, 60]⟩ w (by decide)
theorem fits4 : tk4.length ≤ 10000 ∧ SmallT tk4 := by decide +kernel
def tk5 : List Tok := (scanL #[97, 32, 60, 32, 98, 32, 60, 32, 99].toList 0).toks
theorem ft5 (w : World) : Calls Tryd.prog 11 #[.string ⟨#[97, 32, 60, 32, 98, 32, 60, 32, 99]⟩] w (GivesT tk5 w) := tokens_any ⟨#[97, 32, 60, 32, 98, 32, 60, 32, 99]⟩ w (by decide)
theorem fits5 : tk5.length ≤ 10000 ∧ SmallT tk5 := by decide +kernel
def wantN : List Nod := [⟨5, 0, [], 2⟩, ⟨2, 0, [97], 0⟩, ⟨7, 0, [], 6⟩, ⟨2, 0, [98], 4⟩, ⟨1, 2, [], 8⟩]
def wantM : List Nod := [⟨7, 0, [], 3⟩, ⟨3, 0, [], 0⟩, ⟨2, 0, [97], 1⟩, ⟨2, 0, [98], 5⟩]
theorem fx1 : exprV tk1 0 = ⟨wantN, 5, 0, 0⟩ := by decide +kernel
theorem fx2 : exprV tk2 0 = ⟨wantM, 4, 0, 0⟩ := by decide +kernel
theorem fx3 : exprV tk3 0 = ⟨[], 0, 5, 5⟩ := by decide +kernel
theorem fx4 : exprV tk4 0 = ⟨[], 0, 6, 3⟩ := by decide +kernel
theorem fx5 : (exprV tk5 0).to = 3 ∧ (exprV tk5 0).err = 0 := by decide +kernel
theorem fx6 : exprV [] (-1) = ⟨[], 0, 1, 0⟩ := by decide +kernel
theorem fp (L : List Tok) (i : Int) (q : Parsed) (h : exprV L i = q) (hf : L.length ≤ 10000 ∧ SmallT L) (v : Value) (w : World) (hr : ReadT w v L) (ht : Tabs w) : Calls Tryd.prog 13 #[v, .int .i64 i] w (GivesE q w) := by
  have := parse_any v L i w hr ht hf.1 hf.2
  rwa [h] at this
theorem smallN : SmallN wantN ∧ SmallN wantM ∧ SmallN (wantN.drop 1) := by decide +kernel
theorem fs1 (v : Value) (w : World) (h : ReadN w v wantN) (ht : Tabs w) : Calls Tryd.prog 19 #[v] w (GivesSB [97, 32, 43, 32, 40, 98, 32, 42, 32, 50, 41] w) := by
  have := show_any v wantN w h (by decide) smallN.1 ht
  rwa [show shownL wantN = [97, 32, 43, 32, 40, 98, 32, 42, 32, 50, 41] from by decide +kernel] at this
theorem fs2 (v : Value) (w : World) (h : ReadN w v wantM) (ht : Tabs w) : Calls Tryd.prog 19 #[v] w (GivesSB [45, 97, 32, 42, 32, 98] w) := by
  have := show_any v wantM w h (by decide) smallN.2.1 ht
  rwa [show shownL wantM = [45, 97, 32, 42, 32, 98] from by decide +kernel] at this
theorem fr1 (v : Value) (w : World) (h : ReadN w v wantN) : Calls Tryd.prog 17 #[v] w (TellsB true w) := by
  have := right_any v wantN w h (by decide) smallN.1
  rwa [show rightL wantN = true from by decide +kernel] at this
theorem fr2 (v : Value) (w : World) (h : ReadN w v (wantN.drop 1)) : Calls Tryd.prog 17 #[v] w (TellsB false w) := by
  have := right_any v (wantN.drop 1) w h (by decide) smallN.2.2
  rwa [show rightL (wantN.drop 1) = false from by decide +kernel] at this
theorem fd1 (v : Value) (w : World) (h : ReadN w v wantN) : Calls Tryd.prog 21 #[v] w (GivesN 3 w) := by
  have := depth_any v wantN w h (by decide) smallN.1
  rwa [show ((depthL wantN : Nat) : Int) = 3 from by decide +kernel] at this
theorem fe1 (v : Value) (w : World) (h : ReadN w v wantN) : Calls Tryd.prog 26 #[v, .int .i64 2] w (TellsI 5 w) := by
  have := end_any v wantN 2 w h (by decide)
  rwa [show endV wantN 2 = 5 from by decide +kernel] at this
theorem fe2 (v : Value) (w : World) (h : ReadN w v wantN) : Calls Tryd.prog 26 #[v, .int .i64 5] w (TellsI (-1) w) := by
  have := end_any v wantN 5 w h (by decide)
  rwa [show endV wantN 5 = -1 from by decide +kernel] at this
theorem fn1 (v : Value) (w : World) (h : ReadN w v wantN) : Calls Tryd.prog 24 #[v] w (GivesS1 [[97], [98]] w) := by
  have := names_any v wantN w h (by decide) smallN.1
  rwa [show namesL wantN = [[97], [98]] from by decide +kernel] at this
theorem fq1 (v1 v2 : Value) (w : World) (h : ReadS w v1 [[97], [98]]) (h2 : ReadS w v2 [[97], [98]]) : Calls Tryd.prog 23 #[v1, v2] w (TellsB true w) := by
  have := texts_any v1 v2 _ _ w h h2 (by decide)
  rwa [show sameS [[97], [98]] [[97], [98]] = true from by decide +kernel] at this
theorem fm1 (v1 v2 : Value) (w : World) (h : ReadN w v1 wantN) (h2 : ReadN w v2 wantN) : Calls Tryd.prog 14 #[v1, v2, .bool true] w (TellsB true w) := by
  have := rsame_any true v1 v2 _ _ w h h2 (by decide)
  rwa [show sameN true wantN wantN = true from by decide +kernel] at this
theorem fm2 (v1 v2 : Value) (w : World) (h : ReadN w v1 wantN) (h2 : ReadN w v2 wantN) : Calls Tryd.prog 28 #[v1, v2] w (TellsB true w) := by
  have := same_any v1 v2 _ _ w h h2 (by decide)
  rwa [show sameN false wantN wantN = true from by decide +kernel] at this
theorem fm3 (v1 v2 : Value) (w : World) (h : ReadN w v1 wantN) (h2 : ReadN w v2 wantM) : Calls Tryd.prog 28 #[v1, v2] w (TellsB false w) := by
  have := same_any v1 v2 _ _ w h h2 (by decide)
  rwa [show sameN false wantN wantM = false from by decide +kernel] at this
def wantVals : Array Value := #[.int .i64 5, .int .i64 0, .string ⟨#[]⟩, .int .i64 2, .int .i64 2, .int .i64 0, .string ⟨#[97]⟩, .int .i64 0, .int .i64 7, .int .i64 0, .string ⟨#[]⟩, .int .i64 6, .int .i64 2, .int .i64 0, .string ⟨#[98]⟩, .int .i64 4, .int .i64 1, .int .i64 2, .string ⟨#[]⟩, .int .i64 8]
theorem want_own (w : World) : OwnN (w.alloc (.cells wantVals 30)) w.heap.size (.slice (some ⟨w.heap.size, 0, none⟩) 5 5) wantN :=
  ⟨rfl, .inr ⟨w.heap.size, 5, wantVals, rfl, Nat.le_refl _, heap_alloc_new w _, by decide, by decide, rfl, rfl⟩⟩
theorem want_texts (w : World) : OwnS (w.alloc (.cells #[.string ⟨#[97]⟩, .string ⟨#[98]⟩] 9)) w.heap.size (.slice (some ⟨w.heap.size, 0, none⟩) 2 2) [[97], [98]] :=
  ⟨rfl, .inr ⟨w.heap.size, 2, _, rfl, Nat.le_refl _, heap_alloc_new w _, by decide, by decide, rfl, rfl⟩⟩

theorem own5 {w : World} {B : Nat} {v : Value} (h : OwnN w B v wantN) : ∃ g cap, v = .slice (some ⟨g, 0, none⟩) 5 cap ∧ 5 ≤ cap ∧ cap ≤ 9223372036854775807 := by
  obtain ⟨g, cap, rfl⟩ := ownN_form h (by decide)
  have := h.read.len
  exact ⟨g, cap, rfl, this.2.1, by have h2 := this.2.2; unfold maxLen at h2; omega⟩
theorem read5 {w : World} {g cap : Nat} (h : ReadN w (.slice (some ⟨g, 0, none⟩) 5 cap) wantN) : ReadN w (.slice (some ⟨g, 4, none⟩) 4 (cap - 1)) (wantN.drop 1) := by
  have hq := ReadN.part (k := 1) (to := 5) h (by omega) (by omega)
  exact hq

set_option maxRecDepth 100000 in
set_option maxHeartbeats 8000000 in
theorem fixed_any (w : World) (ht : Tabs w) : Calls Tryd.prog 15 #[] w (IsTrue w) := by
  have HT := Lib.hid ht
  have HB := Lib.hid (Below.refl w.heap.size w)
  clear ht
  go_enter Tryd.func15, Tryd.ntmps15
  go_wp2_with fail
  refine (ft1 _).mono ?_; rintro e u1 ⟨v1, rfl, ho, hb⟩
  replace HB := Lib.hid (below_then HB.out hb)
  have HTK := Lib.hid ho.read
  clear ho
  clear hb
  go_wp2_with fail
  refine (fp tk1 0 ⟨wantN, 5, 0, 0⟩ fx1 fits1 _ _ HTK.out (HT.out.on HB.out)).mono ?_; rintro e u2 ⟨r1, rfl, ho, hb⟩
  replace HB := Lib.hid (below_then HB.out hb)
  clear HTK
  obtain ⟨g1, cap1, rfl, hcap1, hcap2⟩ := own5 ho
  have HA := Lib.hid ho.read
  clear ho
  clear hb
  go_wp2_with fail
  refine (ft2 _).mono ?_; rintro e u3 ⟨v2, rfl, ho, hb⟩
  replace HA := Lib.hid (HA.out.on hb)
  replace HB := Lib.hid (below_then HB.out hb)
  have HTK := Lib.hid ho.read
  clear ho
  clear hb
  go_wp2_with fail
  refine (fp tk2 0 ⟨wantM, 4, 0, 0⟩ fx2 fits2 _ _ HTK.out (HT.out.on HB.out)).mono ?_; rintro e u4 ⟨r2, rfl, ho, hb⟩
  replace HA := Lib.hid (HA.out.on hb)
  replace HB := Lib.hid (below_then HB.out hb)
  clear HTK
  have HM := Lib.hid ho.read
  clear ho
  clear hb
  go_wp2_with fail
  refine (ft3 _).mono ?_; rintro e u5 ⟨v3, rfl, ho, hb⟩
  replace HA := Lib.hid (HA.out.on hb)
  replace HM := Lib.hid (HM.out.on hb)
  replace HB := Lib.hid (below_then HB.out hb)
  have HTK := Lib.hid ho.read
  clear ho
  clear hb
  go_wp2_with fail
  refine (fp tk3 0 ⟨[], 0, 5, 5⟩ fx3 fits3 _ _ HTK.out (HT.out.on HB.out)).mono ?_; rintro e u6 ⟨r3, rfl, ho, hb⟩
  replace HA := Lib.hid (HA.out.on hb)
  replace HM := Lib.hid (HM.out.on hb)
  replace HB := Lib.hid (below_then HB.out hb)
  clear HTK
  clear ho
  clear hb
  go_wp2_with fail
  refine (ft4 _).mono ?_; rintro e u7 ⟨v4, rfl, ho, hb⟩
  replace HA := Lib.hid (HA.out.on hb)
  replace HM := Lib.hid (HM.out.on hb)
  replace HB := Lib.hid (below_then HB.out hb)
  have HTK := Lib.hid ho.read
  clear ho
  clear hb
  go_wp2_with fail
  refine (fp tk4 0 ⟨[], 0, 6, 3⟩ fx4 fits4 _ _ HTK.out (HT.out.on HB.out)).mono ?_; rintro e u8 ⟨r4, rfl, ho, hb⟩
  replace HA := Lib.hid (HA.out.on hb)
  replace HM := Lib.hid (HM.out.on hb)
  replace HB := Lib.hid (below_then HB.out hb)
  clear HTK
  clear ho
  clear hb
  go_wp2_with fail
  refine (ft5 _).mono ?_; rintro e u9 ⟨v5, rfl, ho, hb⟩
  replace HA := Lib.hid (HA.out.on hb)
  replace HM := Lib.hid (HM.out.on hb)
  replace HB := Lib.hid (below_then HB.out hb)
  have HTK := Lib.hid ho.read
  clear ho
  clear hb
  go_wp2_with fail
  refine (fp tk5 0 (exprV tk5 0) rfl fits5 _ _ HTK.out (HT.out.on HB.out)).mono ?_; rintro e u10 ⟨r5, rfl, ho, hb⟩
  replace HA := Lib.hid (HA.out.on hb)
  replace HM := Lib.hid (HM.out.on hb)
  replace HB := Lib.hid (below_then HB.out hb)
  clear HTK
  clear ho
  rw [fx5.1, fx5.2]
  generalize (exprV tk5 0).pl = pl5
  clear hb
  go_wp2_with fail
  refine (fp [] (-1) _ fx6 (by decide) _ _ (own_nil _ 0).read (HT.out.on HB.out)).mono ?_; rintro e u11 ⟨r6, rfl, ho, hb⟩
  replace HA := Lib.hid (HA.out.on hb)
  replace HM := Lib.hid (HM.out.on hb)
  replace HB := Lib.hid (below_then HB.out hb)
  clear ho
  clear hb
  go_wp2_with fail
  change Calls _ _ _ (u11.alloc (.cells wantVals 30)) _
  have HW := Lib.hid (want_own u11).read
  replace HA := Lib.hid (HA.out.on ((Below.refl _ _).alloc (Nat.le_refl _) (.cells wantVals 30)))
  replace HM := Lib.hid (HM.out.on ((Below.refl _ _).alloc (Nat.le_refl _) (.cells wantVals 30)))
  replace HB := Lib.hid (HB.out.alloc HB.out.size (.cells wantVals 30))
  generalize Value.slice (some ⟨u11.heap.size, 0, none⟩) 5 5 = vw at *
  generalize u11.alloc (.cells wantVals 30) = uw at *
  refine (fm1 _ _ _ HA.out HW.out).mono ?_; rintro e u12 ⟨rfl, hb⟩
  replace HA := Lib.hid (HA.out.on hb)
  replace HM := Lib.hid (HM.out.on hb)
  replace HW := Lib.hid (HW.out.on hb)
  replace HB := Lib.hid (below_then HB.out hb)
  clear hb
  go_wp2_with fail
  refine (fs1 _ _ HA.out (HT.out.on HB.out)).mono ?_; rintro e u13 ⟨rfl, hb⟩
  replace HA := Lib.hid (HA.out.on hb)
  replace HM := Lib.hid (HM.out.on hb)
  replace HW := Lib.hid (HW.out.on hb)
  replace HB := Lib.hid (below_then HB.out hb)
  clear hb
  go_wp2_with fail
  refine (fs2 _ _ HM.out (HT.out.on HB.out)).mono ?_; rintro e u14 ⟨rfl, hb⟩
  replace HA := Lib.hid (HA.out.on hb)
  replace HM := Lib.hid (HM.out.on hb)
  replace HW := Lib.hid (HW.out.on hb)
  replace HB := Lib.hid (below_then HB.out hb)
  clear hb
  go_wp2_with fail
  have hc1 : ¬ cap1 = 1 := by omega
  refine (fr1 _ _ HA.out).mono ?_; rintro e u15 ⟨rfl, hb⟩
  replace HA := Lib.hid (HA.out.on hb)
  replace HM := Lib.hid (HM.out.on hb)
  replace HW := Lib.hid (HW.out.on hb)
  replace HB := Lib.hid (below_then HB.out hb)
  clear hb
  go_wp2_with fail
  refine (fr2 _ _ (read5 HA.out)).mono ?_; rintro e u16 ⟨rfl, hb⟩
  replace HA := Lib.hid (HA.out.on hb)
  replace HM := Lib.hid (HM.out.on hb)
  replace HW := Lib.hid (HW.out.on hb)
  replace HB := Lib.hid (below_then HB.out hb)
  clear hb
  go_wp2_with fail
  refine (fd1 _ _ HA.out).mono ?_; rintro e u17 ⟨rfl, hb⟩
  replace HA := Lib.hid (HA.out.on hb)
  replace HM := Lib.hid (HM.out.on hb)
  replace HW := Lib.hid (HW.out.on hb)
  replace HB := Lib.hid (below_then HB.out hb)
  clear hb
  go_wp2_with fail
  refine (fe1 _ _ HA.out).mono ?_; rintro e u ⟨rfl, rfl⟩
  go_wp2_with fail
  refine (fe2 _ _ HA.out).mono ?_; rintro e u ⟨rfl, rfl⟩
  go_wp2_with fail
  refine (fn1 _ _ HA.out).mono ?_; rintro e u18 ⟨vn, rfl, ho, hb⟩
  replace HA := Lib.hid (HA.out.on hb)
  replace HM := Lib.hid (HM.out.on hb)
  replace HW := Lib.hid (HW.out.on hb)
  replace HB := Lib.hid (below_then HB.out hb)
  have HN := Lib.hid ho.read
  clear ho
  clear hb
  go_wp2_with fail
  have HX := Lib.hid (want_texts u18).read
  replace HN := Lib.hid (HN.out.on ((Below.refl _ _).alloc (Nat.le_refl _) (.cells #[.string ⟨#[97]⟩, .string ⟨#[98]⟩] 9)))
  replace HA := Lib.hid (HA.out.on ((Below.refl _ _).alloc (Nat.le_refl _) (.cells #[.string ⟨#[97]⟩, .string ⟨#[98]⟩] 9)))
  replace HM := Lib.hid (HM.out.on ((Below.refl _ _).alloc (Nat.le_refl _) (.cells #[.string ⟨#[97]⟩, .string ⟨#[98]⟩] 9)))
  replace HW := Lib.hid (HW.out.on ((Below.refl _ _).alloc (Nat.le_refl _) (.cells #[.string ⟨#[97]⟩, .string ⟨#[98]⟩] 9)))
  replace HB := Lib.hid (HB.out.alloc HB.out.size (.cells #[.string ⟨#[97]⟩, .string ⟨#[98]⟩] 9))
  generalize Value.slice (some ⟨u18.heap.size, 0, none⟩) 2 2 = vx at *
  generalize u18.alloc (.cells #[.string ⟨#[97]⟩, .string ⟨#[98]⟩] 9) = ux at *
  refine (fq1 _ _ _ HN.out HX.out).mono ?_; rintro e u19 ⟨rfl, hb⟩
  replace HA := Lib.hid (HA.out.on hb)
  replace HM := Lib.hid (HM.out.on hb)
  replace HW := Lib.hid (HW.out.on hb)
  replace HN := Lib.hid (HN.out.on hb)
  replace HX := Lib.hid (HX.out.on hb)
  replace HB := Lib.hid (below_then HB.out hb)
  clear hb
  go_wp2_with fail
  refine (fm2 _ _ _ HA.out HW.out).mono ?_; rintro e u20 ⟨rfl, hb⟩
  replace HA := Lib.hid (HA.out.on hb)
  replace HM := Lib.hid (HM.out.on hb)
  replace HW := Lib.hid (HW.out.on hb)
  replace HN := Lib.hid (HN.out.on hb)
  replace HX := Lib.hid (HX.out.on hb)
  replace HB := Lib.hid (below_then HB.out hb)
  clear hb
  go_wp2_with fail
  refine (fm3 _ _ _ HA.out HM.out).mono ?_; rintro e u21 ⟨rfl, hb⟩
  replace HA := Lib.hid (HA.out.on hb)
  replace HM := Lib.hid (HM.out.on hb)
  replace HW := Lib.hid (HW.out.on hb)
  replace HN := Lib.hid (HN.out.on hb)
  replace HX := Lib.hid (HX.out.on hb)
  replace HB := Lib.hid (below_then HB.out hb)
  clear hb
  go_wp2_with fail
  go_ret
  exact ⟨rfl, HB.out⟩
end Go.Proofs.YtcmbcbdijmknnaaDoor
