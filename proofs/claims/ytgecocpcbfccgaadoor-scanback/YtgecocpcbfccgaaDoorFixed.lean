/-
  DERIVED. Layer 2: the calls whose answers the document fixes: each of them answers so, whatever the world that holds the table of signs.
-/
import Derived.Test.YtgecocpcbfccgaaDoorText
namespace Go.Proofs.YtgecocpcbfccgaaDoor
open Go.RowKit

def wantL : List Tok := [⟨1, [120, 49], 0, 0⟩, ⟨3, [60, 61], 0, 3⟩, ⟨2, [49, 48], 10, 6⟩]
theorem fs1 (w : World) (hw : Signs w) : Calls Tryd.prog 10 #[.string ⟨#[120, 49, 32, 60, 61, 32, 49, 48, 32, 47, 47, 32, 110, 111]⟩] w (GivesF ⟨wantL, 0, 0⟩ w) := by
  have h := scan_any ⟨#[120, 49, 32, 60, 61, 32, 49, 48, 32, 47, 47, 32, 110, 111]⟩ w (by decide) hw
  rwa [show scanL (ByteArray.mk #[120, 49, 32, 60, 61, 32, 49, 48, 32, 47, 47, 32, 110, 111]).data.toList 0 = ⟨wantL, 0, 0⟩ from by decide +kernel] at h
theorem fs2 (w : World) (hw : Signs w) : Calls Tryd.prog 10 #[.string ⟨#[97, 32, 35, 32, 98]⟩] w (GivesF ⟨[], 3, 2⟩ w) := by
  have h := scan_any ⟨#[97, 32, 35, 32, 98]⟩ w (by decide) hw
  rwa [show scanL (ByteArray.mk #[97, 32, 35, 32, 98]).data.toList 0 = ⟨[], 3, 2⟩ from by decide +kernel] at h
theorem fs3 (w : World) (hw : Signs w) : Calls Tryd.prog 10 #[.string ⟨#[52, 50, 57, 52, 57, 54, 55, 50, 57, 55]⟩] w (GivesF ⟨[], 4, 0⟩ w) := by
  have h := scan_any ⟨#[52, 50, 57, 52, 57, 54, 55, 50, 57, 55]⟩ w (by decide) hw
  rwa [show scanL (ByteArray.mk #[52, 50, 57, 52, 57, 54, 55, 50, 57, 55]).data.toList 0 = ⟨[], 4, 0⟩ from by decide +kernel] at h
theorem fs4 (w : World) (hw : Signs w) : Calls Tryd.prog 10 #[.string ⟨#[97, 32, 97, 98, 99, 100, 101, 102, 103, 104, 105, 106, 107, 108, 109, 110, 111, 112, 113]⟩] w (GivesF ⟨[], 2, 2⟩ w) := by
  have h := scan_any ⟨#[97, 32, 97, 98, 99, 100, 101, 102, 103, 104, 105, 106, 107, 108, 109, 110, 111, 112, 113]⟩ w (by decide) hw
  rwa [show scanL (ByteArray.mk #[97, 32, 97, 98, 99, 100, 101, 102, 103, 104, 105, 106, 107, 108, 109, 110, 111, 112, 113]).data.toList 0 = ⟨[], 2, 2⟩ from by decide +kernel] at h
theorem fn1 (w : World) : Calls Tryd.prog 13 #[.string ⟨#[97, 95, 49]⟩] w (TellsB true w) := by
  have h := name_any ⟨#[97, 95, 49]⟩ w (by decide)
  rwa [show nameB (ByteArray.mk #[97, 95, 49]).data.toList = true from by decide +kernel] at h
theorem fn2 (w : World) : Calls Tryd.prog 13 #[.string ⟨#[108, 111, 111, 112]⟩] w (TellsB false w) := by
  have h := name_any ⟨#[108, 111, 111, 112]⟩ w (by decide)
  rwa [show nameB (ByteArray.mk #[108, 111, 111, 112]).data.toList = false from by decide +kernel] at h
theorem fn3 (w : World) : Calls Tryd.prog 13 #[.string ⟨#[49, 97]⟩] w (TellsB false w) := by
  have h := name_any ⟨#[49, 97]⟩ w (by decide)
  rwa [show nameB (ByteArray.mk #[49, 97]).data.toList = false from by decide +kernel] at h
theorem fk1 (w : World) : Calls Tryd.prog 15 #[.string ⟨#[115, 102, 101, 110, 99, 101]⟩] w (TellsB true w) := by
  have h := kept_any ⟨#[115, 102, 101, 110, 99, 101]⟩ w (by decide)
  rwa [show keptB (ByteArray.mk #[115, 102, 101, 110, 99, 101]).data.toList = true from by decide +kernel] at h
theorem fi1 (v : Value) (w : World) (h : ReadT w v wantL) : Calls Tryd.prog 20 #[v, .int .i64 1, .string ⟨#[60, 61]⟩] w (TellsB true w) := by
  have h := is_any v wantL 1 ⟨#[60, 61]⟩ w h
  rwa [show isB wantL 1 (ByteArray.mk #[60, 61]).data.toList = true from by decide +kernel] at h
theorem fi2 (v : Value) (w : World) (h : ReadT w v wantL) : Calls Tryd.prog 20 #[v, .int .i64 2, .string ⟨#[49, 48]⟩] w (TellsB false w) := by
  have h := is_any v wantL 2 ⟨#[49, 48]⟩ w h
  rwa [show isB wantL 2 (ByteArray.mk #[49, 48]).data.toList = false from by decide +kernel] at h
theorem fp1 (v : Value) (w : World) (h : ReadT w v wantL) : Calls Tryd.prog 22 #[v, .int .i64 3] w (GivesN 8 w) := by
  have h := place_any v wantL 3 w h (by decide) (by intro t ht; simp [wantL] at ht; rcases ht with rfl | rfl | rfl <;> decide)
  rwa [show placeV wantL 3 = 8 from by decide +kernel] at h
theorem fp2 (w : World) : Calls Tryd.prog 22 #[.slice none 0 0, .int .i64 0] w (GivesN 0 w) := by
  have h := place_any (.slice none 0 0) [] 0 w (own_nil w 0).read (by decide) (by intro t ht; simp at ht)
  rwa [place_nil] at h
theorem fw1 (v : Value) (w : World) (h : ReadT w v wantL) : Calls Tryd.prog 18 #[v] w (GivesSB [120, 49, 32, 60, 61, 32, 49, 48] w) := by
  have h := show_any v wantL w h (by decide) (by decide +kernel)
  rwa [show showL wantL = [120, 49, 32, 60, 61, 32, 49, 48] from by decide +kernel] at h
theorem fe1 (v1 v2 : Value) (w : World) (h1 : ReadT w v1 wantL) (h2 : ReadT w v2 wantL) : Calls Tryd.prog 12 #[v1, v2, .bool true] w (TellsB true w) := by
  have h := same_any true v1 v2 wantL wantL w h1 h2 (by decide)
  rwa [show sameB true wantL wantL = true from by decide +kernel] at h
def wantVals : Array Value := #[.int .i64 1, .string ⟨#[120, 49]⟩, .int .i64 0, .int .i64 0, .int .i64 3, .string ⟨#[60, 61]⟩, .int .i64 0, .int .i64 3, .int .i64 2, .string ⟨#[49, 48]⟩, .int .i64 10, .int .i64 6]
theorem want_own (w : World) : OwnT (w.alloc (.cells wantVals 31)) w.heap.size (.slice (some ⟨w.heap.size, 0, none⟩) 3 3) wantL :=
  ⟨rfl, .inr ⟨w.heap.size, 3, wantVals, rfl, Nat.le_refl _, heap_alloc_new w _, by decide, by decide, rfl, rfl⟩⟩

/-- A law's end: it is true, and nothing that was there has turned. -/
def IsTrue (w : World) (e : Ending) (w' : World) : Prop := e = .returned (.bool true) ∧ Below w.heap.size w w'

set_option maxRecDepth 100000 in
set_option maxHeartbeats 4000000 in
theorem fixed_any (w : World) (hw : Signs w) : Calls Tryd.prog 17 #[] w (IsTrue w) := by
  have HW := Lib.hid hw
  clear hw
  go_enter Tryd.func17, Tryd.ntmps17
  go_wp2_with fail
  refine (fs1 _ HW.out).mono ?_; rintro e w1 ⟨v1, rfl, ho, hb⟩
  have HO := Lib.hid ho.read
  have HB := Lib.hid hb
  clear ho hb
  go_wp2_with fail
  refine (fs2 _ (HW.out.on HB.out)).mono ?_; rintro e w2 ⟨v2, rfl, ho, hb⟩
  replace HO := Lib.hid (HO.out.on hb)
  replace HB := Lib.hid (below_then HB.out hb)
  clear ho hb w1
  go_wp2_with fail
  refine (fs3 _ (HW.out.on HB.out)).mono ?_; rintro e w1 ⟨v3, rfl, ho, hb⟩
  replace HO := Lib.hid (HO.out.on hb)
  replace HB := Lib.hid (below_then HB.out hb)
  clear ho hb w2
  go_wp2_with fail
  refine (fs4 _ (HW.out.on HB.out)).mono ?_; rintro e w2 ⟨v4, rfl, ho, hb⟩
  replace HO := Lib.hid (HO.out.on hb)
  replace HB := Lib.hid (below_then HB.out hb)
  clear ho hb w1
  go_wp2_with fail
  change Calls _ _ _ (w2.alloc (.cells wantVals 31)) _
  have HV := Lib.hid (want_own w2).read
  replace HO := Lib.hid (HO.out.on ((Below.refl _ _).alloc (Nat.le_refl _) (.cells wantVals 31)))
  replace HB := Lib.hid (HB.out.alloc HB.out.size (.cells wantVals 31))
  generalize Value.slice (some ⟨w2.heap.size, 0, none⟩) 3 3 = v5 at *
  generalize w2.alloc (.cells wantVals 31) = w1 at *
  clear w2
  refine (fe1 _ _ _ HO.out HV.out).mono ?_; rintro e w2 ⟨rfl, hb⟩
  replace HO := Lib.hid (HO.out.on hb)
  replace HB := Lib.hid (below_then HB.out hb)
  clear hb HV w1
  go_wp2_with fail
  refine (fw1 _ _ HO.out).mono ?_; rintro e w1 ⟨rfl, hb⟩
  replace HO := Lib.hid (HO.out.on hb)
  replace HB := Lib.hid (below_then HB.out hb)
  clear hb w2
  go_wp2_with fail
  refine (fn1 _).mono ?_; rintro e w2 ⟨rfl, hb⟩
  replace HO := Lib.hid (HO.out.on hb)
  replace HB := Lib.hid (below_then HB.out hb)
  clear hb w1
  go_wp2_with fail
  refine (fn2 _).mono ?_; rintro e w1 ⟨rfl, hb⟩
  replace HO := Lib.hid (HO.out.on hb)
  replace HB := Lib.hid (below_then HB.out hb)
  clear hb w2
  go_wp2_with fail
  refine (fn3 _).mono ?_; rintro e w2 ⟨rfl, hb⟩
  replace HO := Lib.hid (HO.out.on hb)
  replace HB := Lib.hid (below_then HB.out hb)
  clear hb w1
  go_wp2_with fail
  refine (fk1 _).mono ?_; rintro e w1 ⟨rfl, hb⟩
  replace HO := Lib.hid (HO.out.on hb)
  replace HB := Lib.hid (below_then HB.out hb)
  clear hb w2
  go_wp2_with fail
  refine (fi1 _ _ HO.out).mono ?_; rintro e w2 ⟨rfl, hb⟩
  replace HO := Lib.hid (HO.out.on hb)
  replace HB := Lib.hid (below_then HB.out hb)
  clear hb w1
  go_wp2_with fail
  refine (fi2 _ _ HO.out).mono ?_; rintro e w1 ⟨rfl, hb⟩
  replace HO := Lib.hid (HO.out.on hb)
  replace HB := Lib.hid (below_then HB.out hb)
  clear hb w2
  go_wp2_with fail
  refine (fp1 _ _ HO.out).mono ?_; rintro e w2 ⟨rfl, hb⟩
  replace HO := Lib.hid (HO.out.on hb)
  replace HB := Lib.hid (below_then HB.out hb)
  clear hb w1
  go_wp2_with fail
  refine (fp2 _).mono ?_; rintro e w1 ⟨rfl, hb⟩
  replace HO := Lib.hid (HO.out.on hb)
  replace HB := Lib.hid (below_then HB.out hb)
  clear hb w2
  go_wp2_with fail
  go_ret
  exact ⟨rfl, HB.out⟩
end Go.Proofs.YtgecocpcbfccgaaDoor
