/-
  DERIVED. Texts of the walk, packed: OwnK, SFixed, Joins.
-/
import Derived.Test.YtpeohfgadnfnpaaGreatDoorP47
import Derived.Test.YtpeohfgadnfnpaaGreatDoorP46
import Derived.Test.YtpeohfgadnfnpaaGreatDoorP33
/-
  DERIVED. Layer 4: rows of statements of a call's own: one behind the other.
-/
namespace Go.Proofs.YtpeohfgadnfnpaaGreatDoor
open Go.RowKit

/-- A row of the call's own that holds these. -/
structure OwnK (w : World) (B : Nat) (v : Value) (K : List Sv) : Prop where
  row : w.ownsRow B 31 9 v K.length (cellsV K)
  rds : ∀ x ∈ K, ReadE B w x.vE x.s.e ∧ ReadE B w x.vF x.s.f
theorem OwnK.own {w : World} {B : Nat} {v : Value} {K : List Sv} (h : OwnK w B v K) : OwnS w B v (K.map (·.s)) := ⟨K, rfl, h.row, h.rds⟩
theorem OwnK.read {w : World} {B : Nat} {v : Value} {K : List Sv} (h : OwnK w B v K) : ReadSt w v (K.map (·.s)) := h.own.read
theorem OwnK.on {w w' : World} {B : Nat} {v : Value} {K : List Sv} (h : OwnK w B v K) (hb : Below w.heap.size w w') : OwnK w' B v K :=
  ⟨row_keep (P := fun _ => False) h.row (KeepP.of hb) (fun _ _ h => h), fun x hx => ⟨(h.rds x hx).1.on hb, (h.rds x hx).2.on hb⟩⟩
theorem OwnK.keep {P : Nat → Prop} {w w' : World} {B : Nat} {v : Value} {K : List Sv} (h : OwnK w B v K) (hk : KeepP P w w') (hP : ∀ q, v.ownBlock = some q → ¬ P q) (hN : ∀ q cs fr, w.heap[q]? = some (.cells cs 33 fr) → ¬ P q) : OwnK w' B v K :=
  ⟨row_keep h.row hk hP, fun x hx => ⟨(h.rds x hx).1.keep hk hN, (h.rds x hx).2.keep hk hN⟩⟩
theorem ReadE.low {B B' : Nat} {w : World} {v : Value} {l : List Nod} (h : ReadE B w v l) (hB : B' ≤ B) : ReadE B' w v l := ⟨h.rd, fun q hq => ⟨Nat.le_trans hB (h.blk q hq).1, (h.blk q hq).2⟩⟩
theorem row_low {w : World} {B B' : Nat} {v : Value} {n : Nat} {xs : List Value} (h : w.ownsRow B 31 9 v n xs) (hB : B' ≤ B) : w.ownsRow B' 31 9 v n xs := by
  refine ⟨h.1, ?_⟩
  rcases h.2 with h | ⟨g, cap, cur, h1, h2, r⟩
  · exact .inl h
  · exact .inr ⟨g, cap, cur, h1, by omega, r⟩
theorem OwnK.low {w : World} {B B' : Nat} {v : Value} {K : List Sv} (h : OwnK w B v K) (hB : B' ≤ B) : OwnK w B' v K := ⟨row_low h.row hB, fun x hx => ⟨(h.rds x hx).1.low hB, (h.rds x hx).2.low hB⟩⟩
/-- An empty row, just made. -/
theorem ownK_new (w : World) : OwnK (w.alloc (.cells #[] 31)) w.heap.size (.slice (some ⟨w.heap.size, 0, none⟩) 0 0) [] :=
  ⟨⟨rfl, .inr ⟨w.heap.size, 0, #[], rfl, Nat.le_refl _, heap_alloc_new w _, by decide, by decide, rfl, rfl⟩⟩, fun x h => by cases h⟩
/-- A row of one statement, just made. -/
theorem ownK_one (w : World) {B : Nat} {x : Sv} (hE : ReadE B w x.vE x.s.e) (hF : ReadE B w x.vF x.s.f) (hB : B ≤ w.heap.size) {cs : Array Value} (hcs : cs = (svCells x).toArray) : OwnK (w.alloc (.cells cs 31)) B (.slice (some ⟨w.heap.size, 0, none⟩) 1 1) [x] := by
  subst hcs
  have hb := (Below.refl w.heap.size w).alloc (Nat.le_refl _) (.cells (svCells x).toArray 31)
  refine ⟨⟨by simp [cellsV, svCells], .inr ⟨w.heap.size, 1, (svCells x).toArray, rfl, hB, heap_alloc_new w _, by simp, by decide, rfl, by simp [cellsV, svCells]⟩⟩, fun y hy => ?_⟩
  obtain rfl : y = x := by simpa using hy
  exact ⟨hE.on hb, hF.on hb⟩
theorem cellsV_one {w : World} {K : List Sv} {B : Nat} (h : ∀ x ∈ K, ReadE B w x.vE x.s.e ∧ ReadE B w x.vF x.s.f) : ∀ u ∈ cellsV K, u.oneCell' = true := by
  intro u hu
  unfold cellsV at hu
  obtain ⟨x, hx, hu⟩ := List.mem_flatMap.1 hu
  obtain ⟨⟨⟨A, c, h1, _⟩, _⟩, ⟨⟨A2, c2, h2, _⟩, _⟩⟩ := h x hx
  exact sv_one ⟨A, _, c, h1⟩ ⟨A2, _, c2, h2⟩ u hu
/-- The cells of a row that begins at its block's first cell. -/
theorem OwnK.news {w : World} {B g n cap : Nat} {K : List Sv} (h : OwnK w B (.slice (some ⟨g, 0, none⟩) n cap) K) : ∀ j u, (cellsV K)[j]? = some u → w.cell? ((⟨g, 0, none⟩ : Addr).add j) = some u := by
  intro j u hu
  rcases h.row.2 with ⟨h0, _⟩ | ⟨g', cap', cur, h1, h2, h3, h4, h5, h6, h7⟩
  · cases h0
  · simp only [Value.slice.injEq, Option.some.injEq, Addr.mk.injEq] at h1
    obtain ⟨⟨rfl, _⟩, _, rfl⟩ := h1
    have hadd : (⟨g, 0, none⟩ : Addr).add j = ⟨g, j, none⟩ := by unfold Addr.add; split <;> simp_all
    rw [hadd, Lib.cell_of_heap h3]
    rw [← h7, List.getElem?_take] at hu
    split at hu
    · simpa using hu
    · cases hu
/-- A row behind another one. -/
theorem OwnK.app {w w' : World} {B : Nat} {v v' : Value} {K M : List Sv} (h : OwnK w B v K) (hm : ∀ x ∈ M, ReadE B w x.vE x.s.e ∧ ReadE B w x.vF x.s.f) (hown : w'.ownsRow B 31 9 v' (K.length + M.length) (cellsV K ++ cellsV M)) (hg : w.grownBy w' v.ownBlock) : OwnK w' B v' (K ++ M) := by
  refine ⟨by rw [cellsV_app, List.length_append]; exact hown, fun x hx => ?_⟩
  have hk := KeepP.grown hg
  have hn : ∀ q cs fr, w.heap[q]? = some (.cells cs 33 fr) → ¬ (v.ownBlock = some q) := row_nodes h.row
  have hr : ReadE B w x.vE x.s.e ∧ ReadE B w x.vF x.s.f := (List.mem_append.1 hx).elim (h.rds x) (hm x)
  exact ⟨hr.1.keep hk hn, hr.2.keep hk hn⟩
theorem OwnK.form {w : World} {B : Nat} {v : Value} {K : List Sv} (h : OwnK w B v K) (hn : 0 < K.length) : ∃ g cap, v = .slice (some ⟨g, 0, none⟩) K.length cap := by
  rcases h.row.2 with ⟨_, h0⟩ | ⟨g, cap, cur, h1, _⟩
  · omega
  · exact ⟨g, cap, h1⟩
theorem OwnK.below {w w' : World} {B : Nat} {v : Value} {K : List Sv} {B0 : Nat} (h : OwnK w B v K) (hg : w.grownBy w' v.ownBlock) (hB : B0 ≤ B) (hw : B0 ≤ w.heap.size) : Below B0 w w' :=
  (KeepP.grown hg).below (fun q hq e => by have := (row_type h.row q e).1; omega) hw
/-- What Cut comes back with, its form told. -/
def GivesCK (l : List Stm) (w : World) (e : Ending) (w' : World) : Prop := ∃ g cap K, e = .returned (.slice (some ⟨g, 0, none⟩) l.length cap) ∧ K.map (·.s) = l ∧ OwnK w' w.heap.size (.slice (some ⟨g, 0, none⟩) l.length cap) K ∧ Below w.heap.size w w'
theorem cutK_any (A : Option Addr) (n c : Nat) (R : Nat → RawS) (w : World) (hA : ArgS w A n R) : Calls Tryz.prog 15 #[.slice A n c] w (GivesCK (rawS R (min n 50)) w) := by
  refine (cutS_any A n c R w hA).mono ?_
  rintro e w' ⟨v, rfl, ⟨K, h1, h2, h3⟩, ⟨g, cap, hv⟩, hb⟩
  subst hv
  exact ⟨g, cap, K, rfl, h1, ⟨h2, h3⟩, hb⟩
end Go.Proofs.YtpeohfgadnfnpaaGreatDoor
/-
  DERIVED. Layer 4: the calls whose answers the document fixes: the walk.
-/
namespace Go.Proofs.YtpeohfgadnfnpaaGreatDoor
open Go.RowKit

set_option maxRecDepth 100000 in
set_option maxHeartbeats 8000000 in
theorem fixed_any (w : World) (ht : Tabs w) : Calls Tryz.prog 14 #[] w (IsTrue w) := by
  have HT := Lib.hid ht
  have HB := Lib.hid (Below.refl w.heap.size w)
  clear ht
  go_enter Tryz.func14, Tryz.ntmps14
  go_wp2_with fail
  refine (ft1 _).mono ?_; rintro e u1 ⟨v1, rfl, ho, hb⟩
  replace HB := Lib.hid (below_then HB.out hb)
  have HTK := Lib.hid ho.read
  clear ho hb
  go_wp2_with fail
  refine (fp tk1 0 ⟨wantL, 13, 0, 0⟩ fx1 fits1 _ _ HTK.out (HT.out.on HB.out)).mono ?_; rintro e u2 ⟨r1, rfl, ho, hb⟩
  replace HB := Lib.hid (below_then HB.out hb)
  clear HTK
  obtain ⟨g1, cap1, rfl, hcap1, hcap2⟩ := ho.form (n := 2) rfl
  have HA := Lib.hid ho.read
  have hc1 : ¬ cap1 = 1 := by omega
  clear ho hb
  go_wp2_with fail
  refine (ft2 _).mono ?_; rintro e u3 ⟨v2, rfl, ho, hb⟩
  replace HA := Lib.hid (HA.out.on hb)
  replace HB := Lib.hid (below_then HB.out hb)
  have HTK := Lib.hid ho.read
  clear ho hb
  go_wp2_with fail
  refine (fp tk2 0 ⟨[], 0, 5, 2⟩ fx2 fits2 _ _ HTK.out (HT.out.on HB.out)).mono ?_; rintro e u4 ⟨r2, rfl, ho, hb⟩
  replace HA := Lib.hid (HA.out.on hb)
  replace HB := Lib.hid (below_then HB.out hb)
  clear HTK
  obtain ⟨A2, c2, rfl, _⟩ := ho.read
  clear ho hb
  go_wp2_with fail
  refine (ft3 _).mono ?_; rintro e u5 ⟨v3, rfl, ho, hb⟩
  replace HA := Lib.hid (HA.out.on hb)
  replace HB := Lib.hid (below_then HB.out hb)
  have HTK := Lib.hid ho.read
  clear ho hb
  go_wp2_with fail
  refine (fp tk3 0 ⟨[], 0, 11, 7⟩ fx3 fits3 _ _ HTK.out (HT.out.on HB.out)).mono ?_; rintro e u6 ⟨r3, rfl, ho, hb⟩
  replace HA := Lib.hid (HA.out.on hb)
  replace HB := Lib.hid (below_then HB.out hb)
  clear HTK
  obtain ⟨A3, c3, rfl, _⟩ := ho.read
  clear ho hb
  go_wp2_with fail
  refine (ft4 _).mono ?_; rintro e u7 ⟨v4, rfl, ho, hb⟩
  replace HA := Lib.hid (HA.out.on hb)
  replace HB := Lib.hid (below_then HB.out hb)
  have HTK := Lib.hid ho.read
  clear ho hb
  go_wp2_with fail
  refine (fp tk4 0 ⟨[], 0, 6, 14⟩ fx4 fits4 _ _ HTK.out (HT.out.on HB.out)).mono ?_; rintro e u8 ⟨r4, rfl, ho, hb⟩
  replace HA := Lib.hid (HA.out.on hb)
  replace HB := Lib.hid (below_then HB.out hb)
  clear HTK
  obtain ⟨A4, c4, rfl, _⟩ := ho.read
  clear ho hb
  go_wp2_with fail
  refine (ft5 _).mono ?_; rintro e u9 ⟨v5, rfl, ho, hb⟩
  replace HA := Lib.hid (HA.out.on hb)
  replace HB := Lib.hid (below_then HB.out hb)
  have HTK := Lib.hid ho.read
  clear ho hb
  go_wp2_with fail
  refine (fp tk5 0 ⟨wantM, 16, 0, 0⟩ fx5 fits5 _ _ HTK.out (HT.out.on HB.out)).mono ?_; rintro e u10 ⟨r5, rfl, ho, hb⟩
  replace HA := Lib.hid (HA.out.on hb)
  replace HB := Lib.hid (below_then HB.out hb)
  clear HTK
  obtain ⟨g5, cap5, rfl, hcap51, hcap52⟩ := ho.form (n := 1) rfl
  have HM := Lib.hid ho.read
  clear ho hb
  obtain ⟨_, _, _, _, _, _, q0⟩ := HA.out.at9 (i := 0) rfl
  obtain ⟨_, _, _, _, _, _, q1⟩ := HA.out.at9 (i := 1) rfl
  obtain ⟨_, _, _, _, _, _, q2⟩ := HA.out.at9 (i := 2) rfl
  obtain ⟨_, _, _, _, _, _, p0⟩ := HM.out.at9 (i := 0) rfl
  have a0 := q0.c0
  have a5 := q0.c5
  have a6 := q0.c6
  have b0 := q1.c0
  have b1 := q1.c1
  have b2 := q1.c2
  have d0 := q2.c0
  have m6 := p0.c6
  have m7 := p0.c7
  have hl1 := q0.lt
  have hl5 := p0.lt
  simp only [Nat.zero_mul, Nat.zero_add, Nat.one_mul] at a0 a5 a6 b0 b1 b2 d0 m6 m7
  clear q0 q1 q2 p0
  go_wp2_with fail
  refine (fs1 _ _ HM.out (HT.out.on HB.out)).mono ?_; rintro e u11 ⟨rfl, hb⟩
  replace HA := Lib.hid (HA.out.on hb)
  replace HM := Lib.hid (HM.out.on hb)
  replace HB := Lib.hid (below_then HB.out hb)
  clear hb
  go_wp2_with fail
  refine (fr1 _ _ HA.out (HT.out.on HB.out)).mono ?_; rintro e u12 ⟨rfl, hb⟩
  replace HA := Lib.hid (HA.out.on hb)
  replace HM := Lib.hid (HM.out.on hb)
  replace HB := Lib.hid (below_then HB.out hb)
  clear hb
  go_wp2_with fail
  refine (fr2 _ _ (read3 HA.out) (HT.out.on HB.out)).mono ?_; rintro e u13 ⟨rfl, hb⟩
  replace HA := Lib.hid (HA.out.on hb)
  replace HM := Lib.hid (HM.out.on hb)
  replace HB := Lib.hid (below_then HB.out hb)
  clear hb
  go_wp2_with fail
  refine (fd1 _ _ HA.out (HT.out.on HB.out)).mono ?_; rintro e u14 ⟨rfl, hb⟩
  replace HA := Lib.hid (HA.out.on hb)
  replace HM := Lib.hid (HM.out.on hb)
  replace HB := Lib.hid (below_then HB.out hb)
  clear hb
  go_wp2_with fail
  refine (fh1 _ (HT.out.on HB.out)).mono ?_; rintro e u15 ⟨rfl, hb⟩
  replace HA := Lib.hid (HA.out.on hb)
  replace HM := Lib.hid (HM.out.on hb)
  replace HB := Lib.hid (below_then HB.out hb)
  clear hb
  go_wp2_with fail
  refine (fm1 _ _ _ HA.out HA.out).mono ?_; rintro e u16 ⟨rfl, hb⟩
  replace HA := Lib.hid (HA.out.on hb)
  replace HM := Lib.hid (HM.out.on hb)
  replace HB := Lib.hid (below_then HB.out hb)
  clear hb
  go_wp2_with fail
  refine (fm2 _ _ _ HA.out HM.out).mono ?_; rintro e u17 ⟨rfl, hb⟩
  replace HA := Lib.hid (HA.out.on hb)
  replace HM := Lib.hid (HM.out.on hb)
  replace HB := Lib.hid (below_then HB.out hb)
  clear hb
  go_wp2_with fail
  go_ret
  exact ⟨rfl, HB.out⟩
end Go.Proofs.YtpeohfgadnfnpaaGreatDoor
/-
  DERIVED. Layer 4: the walk of the law StmtJoins: for all statements it is true.
-/
namespace Go.Proofs.YtpeohfgadnfnpaaGreatDoor
open Go.RowKit

theorem row_slice {w : World} {B : Nat} {v : Value} {n : Nat} {xs : List Value} (h : w.ownsRow B 31 9 v n xs) : ∃ A c, v = .slice A n c := by
  rcases h.2 with ⟨rfl, rfl⟩ | ⟨g, cap, cur, h1, _⟩
  · exact ⟨_, _, rfl⟩
  · exact ⟨_, _, h1⟩
theorem show_small {L : List Stm} (h : rightS L = true) : (showS L).length ≤ 1000000 := by
  obtain ⟨b, rfl, g1, g2, g3, g4, _⟩ := rightS_some h
  rw [showS_right g1.1 h]
  exact lines_small g1 g2 (by simp)
set_option maxRecDepth 100000 in
set_option maxHeartbeats 16000000 in
theorem joins_any (A : Option Addr) (n c : Nat) (R : Nat → RawS) (A' : Option Addr) (n' c' : Nat) (R' : Nat → RawS) (w : World) (hA : ArgS w A n R) (hA' : ArgS w A' n' R') (ht : Tabs w) :
    Calls Tryz.prog 8 #[.slice A n c, .slice A' n' c'] w (IsTrue w) := by
  obtain ⟨i0, hi, hz0, hz1, hz2⟩ := info_parts infoStm
  have HZ := Lib.hid (show Tryz.prog.info? 31 = some i0 ∧ i0.zero = some (.agg #[.int .i64 0, .string ⟨#[]⟩, .string ⟨#[]⟩, .slice none 0 0, .slice none 0 0, .int .i64 0, .int .i64 0, .int .i64 0, .int .i64 0]) ∧ i0.size = 9 ∧ i0.bytes = 120 from ⟨hi, hz0, hz1, hz2⟩)
  have HA := Lib.hid hA
  have HA' := Lib.hid hA'
  have HT := Lib.hid ht
  have hll := rawS_len R (min n 50)
  have HSM := Lib.hid (rawS_small R (min n 50))
  have hll' := rawS_len R' (min n' 50)
  have HSM' := Lib.hid (rawS_small R' (min n' 50))
  clear hi hz0 hz1 hz2 hA hA' ht
  go_enter Tryz.func8, Tryz.ntmps8
  go_wp2_with fail
  refine (cutK_any A n c R _ HA.out).mono ?_
  generalize rawS R (min n 50) = L at *
  have hl50 : L.length ≤ 50 := by omega
  clear hll
  rintro e w1 ⟨g1, cap1, K1, rfl, hm1, ho1, hb⟩
  have HB := Lib.hid hb
  have HO := Lib.hid ho1
  have HM := Lib.hid hm1
  clear ho1 hb hm1
  go_wp2_with fail
  refine (cutK_any A' n' c' R' _ (HA'.out.on HB.out)).mono ?_
  generalize rawS R' (min n' 50) = M at *
  have hm50 : M.length ≤ 50 := by omega
  clear hll'
  rintro e w2 ⟨g2, cap2, K2, rfl, hm2, ho2, hb⟩
  replace HO := Lib.hid (HO.out.on hb)
  have HO' := Lib.hid (ho2.low HB.out.size)
  have HM' := Lib.hid hm2
  replace HB := Lib.hid (below_then HB.out hb)
  clear ho2 hb hm2
  have hRL : ∀ u, OwnK u w.heap.size (.slice (some ⟨g1, 0, none⟩) L.length cap1) K1 → ReadSt u (.slice (some ⟨g1, 0, none⟩) L.length cap1) L := fun u h => by rw [← HM.out]; rw [← HM.out] at h; exact h.read
  have hRM : ∀ u, OwnK u w.heap.size (.slice (some ⟨g2, 0, none⟩) M.length cap2) K2 → ReadSt u (.slice (some ⟨g2, 0, none⟩) M.length cap2) M := fun u h => by rw [← HM'.out]; rw [← HM'.out] at h; exact h.read
  have HRL := Lib.hid hRL
  have HRM := Lib.hid hRM
  clear hRL hRM
  go_wp2_with fail
  refine (sright_any _ L _ (HRL.out _ HO.out) HSM.out (HT.out.on HB.out)).mono ?_
  cases hr : rightS L with
  | false =>
    rintro e w3 ⟨rfl, hb⟩
    replace HB := Lib.hid (below_then HB.out hb)
    clear hb
    go_wp2_with fail
    refine (fixed_any _ (HT.out.on HB.out)).mono ?_
    rintro e w4 ⟨rfl, hb⟩
    go_wp2_with fail
    go_ret
    exact ⟨rfl, below_then HB.out hb⟩
  | true =>
    rintro e w3 ⟨rfl, hb⟩
    replace HO := Lib.hid (HO.out.on hb)
    replace HO' := Lib.hid (HO'.out.on hb)
    replace HB := Lib.hid (below_then HB.out hb)
    clear hb
    go_wp2_with fail
    refine (sright_any _ M _ (HRM.out _ HO'.out) HSM'.out (HT.out.on HB.out)).mono ?_
    cases hr' : rightS M with
    | false =>
      rintro e w4 ⟨rfl, hb⟩
      replace HB := Lib.hid (below_then HB.out hb)
      clear hb
      go_wp2_with fail
      refine (fixed_any _ (HT.out.on HB.out)).mono ?_
      rintro e w5 ⟨rfl, hb⟩
      go_wp2_with fail
      go_ret
      exact ⟨rfl, below_then HB.out hb⟩
    | true =>
      obtain ⟨hj1, hj2⟩ := joins_pure hr hr'
      have hsL := show_small hr
      have hsM := show_small hr'
      have HJ1 := Lib.hid hj1
      have HJ2 := Lib.hid hj2
      clear hr hr' hj1 hj2
      rintro e w4 ⟨rfl, hb⟩
      replace HO := Lib.hid (HO.out.on hb)
      replace HO' := Lib.hid (HO'.out.on hb)
      replace HB := Lib.hid (below_then HB.out hb)
      clear hb
      have hK1 : K1.length = L.length := by rw [← HM.out, List.length_map]
      have hK2 : K2.length = M.length := by rw [← HM'.out, List.length_map]
      have HK1 := Lib.hid hK1
      have HK2 := Lib.hid hK2
      have hsz := HB.out.size
      clear hK1 hK2
      have HLT : Hid (g2 < w4.heap.size ∧ g1 < w4.heap.size) := Lib.hid ⟨row_lt HO'.out.row g2 rfl, row_lt HO.out.row g1 rfl⟩
      go_wp2_with (at_builtin; refine wpList_append_own _ rfl (.tmp 19) (.tmp 20) 24 rfl w4.heap.size 31 i0 (.agg #[.int .i64 0, .string ⟨#[]⟩, .string ⟨#[]⟩, .slice none 0 0, .slice none 0 0, .int .i64 0, .int .i64 0, .int .i64 0, .int .i64 0]) 9 120 Tryz.underlying24 HZ.out.1 HZ.out.2.1 HZ.out.2.2.1 HZ.out.2.2.2 rfl (by decide) _ 0 (cellsV []) rfl ?dO ⟨g1, 0, none⟩ L.length cap1 (cellsV K1) rfl ?dl ?d1 ?d2 ?d3 ?d4 ?d5 ?_)
      case dO => exact (ownK_new w4).row
      case dl => rw [cellsV_len, HK1.out]
      case d1 => exact (HO.out.on ((Below.refl _ _).alloc (Nat.le_refl _) _)).news
      case d2 => exact cellsV_one HO.out.rds
      case d3 => unfold maxLen; omega
      case d4 => omega
      case d5 => simp
      intro v5 w5 hown5 hgrow5 _
      have hbn := (Below.refl w4.heap.size w4).alloc (Nat.le_refl _) (.cells #[] 31)
      have hO5 : OwnK w5 w.heap.size v5 K1 := by
        have := ((ownK_new w4).low hsz).app (M := K1) (HO.out.on hbn).rds (by rw [HK1.out, show ([] : List Sv).length + L.length = L.length from by simp]; exact row_low hown5 hsz) hgrow5
        simpa using this
      have hk5 := (KeepP.of (P := fun q => q = w4.heap.size) hbn).trans (KeepP.grown hgrow5) (R := fun q => q = w4.heap.size) (fun _ _ h => h) (fun q _ h => by simpa [Value.ownBlock] using h.symm)
      have hnew : ∀ q, q < w4.heap.size → ¬ (q = w4.heap.size) := fun q hq e => by omega
      have hB5 : Below w4.heap.size w4 w5 := hk5.below hnew (Nat.le_refl _)
      replace HO := Lib.hid (HO.out.on hB5)
      replace HO' := Lib.hid (HO'.out.on hB5)
      have HO5 := Lib.hid hO5
      replace HB := Lib.hid (below_then HB.out hB5)
      have hsz5 := HB.out.size
      have HNE : Hid (∀ q, v5.ownBlock = some q → w4.heap.size ≤ q) := Lib.hid (fun q hq => (row_type hown5 q hq).1)
      clear hown5 hgrow5 hbn hO5 hk5 hnew hB5 hsz
      go_wp2_with (at_builtin; refine wpList_append_own _ rfl (.tmp 22) (.tmp 23) 24 rfl w.heap.size 31 i0 (.agg #[.int .i64 0, .string ⟨#[]⟩, .string ⟨#[]⟩, .slice none 0 0, .slice none 0 0, .int .i64 0, .int .i64 0, .int .i64 0, .int .i64 0]) 9 120 Tryz.underlying24 HZ.out.1 HZ.out.2.1 HZ.out.2.2.1 HZ.out.2.2.2 rfl (by decide) v5 K1.length (cellsV K1) rfl ?dO ⟨g2, 0, none⟩ M.length cap2 (cellsV K2) rfl ?dl ?d1 ?d2 ?d3 ?d4 ?d5 ?_)
      case dO => exact HO5.out.row
      case dl => rw [cellsV_len, HK2.out]
      case d1 => exact HO'.out.news
      case d2 => exact cellsV_one HO'.out.rds
      case d3 => rw [HK1.out]; unfold maxLen; omega
      case d4 => rw [HK1.out]; omega
      case d5 => exact hsz5
      intro v6 w6 hown6 hgrow6 _
      have hO6 : OwnK w6 w.heap.size v6 (K1 ++ K2) := HO5.out.app HO'.out.rds (by rw [HK2.out]; exact hown6) hgrow6
      have hk6 := KeepP.grown hgrow6
      have hn6 := row_nodes HO5.out.row
      replace HO := Lib.hid (HO.out.keep hk6 (fun q hq e => by have := HNE.out q e; have := HLT.out.2; simp [Value.ownBlock] at hq; omega) hn6)
      replace HO' := Lib.hid (HO'.out.keep hk6 (fun q hq e => by have := HNE.out q e; have := HLT.out.1; simp [Value.ownBlock] at hq; omega) hn6)
      replace HB := Lib.hid (HB.out.trans (HO5.out.below hgrow6 (Nat.le_refl _) hsz5))
      obtain ⟨A6, c6, rfl⟩ := row_slice hO6.row
      have hlen6 : (K1 ++ K2).length = L.length + M.length := by rw [List.length_append, HK1.out, HK2.out]
      have HR6 : Hid (ReadSt w6 (.slice A6 (L.length + M.length) c6) (L ++ M)) := Lib.hid (by
        have := hO6.read
        rw [List.map_append, HM.out, HM'.out, hlen6] at this
        exact this)
      rw [hlen6]
      have HSA : Hid (∀ x ∈ L ++ M, SmallS x) := Lib.hid (fun x hx => (List.mem_append.1 hx).elim (HSM.out x) (HSM'.out x))
      have hlm : (L ++ M).length = L.length + M.length := List.length_append
      rw [hlm] at HJ1 HJ2
      clear hown6 hgrow6 hO6 hk6 hn6 hlen6 hlm hsz5 HO5 HNE HLT
      by_cases h40 : L.length + M.length ≤ 40
      · obtain ⟨j3, j4⟩ := HJ2.out h40
        have j1 : Hid (rightS (L ++ M) = true) := Lib.hid (by rw [HJ1.out]; exact decide_eq_true h40)
        have J3 := Lib.hid j3
        have J4 := Lib.hid j4
        have hi40 : ¬ (40 : Int) < (L.length : Int) + (M.length : Int) := by omega
        have hcat : ¬ (9223372036854775807 < (showS L).length + (showS M).length) := by omega
        clear HJ1 HJ2 j3 j4
        go_wp2_with fail
        refine (sright_any _ (L ++ M) _ HR6.out HSA.out (HT.out.on HB.out)).mono ?_
        rw [j1.out]
        rintro e w7 ⟨rfl, hb⟩
        replace HO := Lib.hid (HO.out.on hb)
        replace HO' := Lib.hid (HO'.out.on hb)
        replace HR6 := Lib.hid (HR6.out.on hb)
        replace HB := Lib.hid (below_then HB.out hb)
        clear hb
        go_wp2_with fail
        refine (sshow_any _ (L ++ M) _ HR6.out HSA.out (HT.out.on HB.out)).mono ?_
        rw [J3.out]
        rintro e w8 ⟨rfl, hb⟩
        replace HO := Lib.hid (HO.out.on hb)
        replace HO' := Lib.hid (HO'.out.on hb)
        replace HR6 := Lib.hid (HR6.out.on hb)
        replace HB := Lib.hid (below_then HB.out hb)
        clear hb
        go_wp2_with fail
        refine (sshow_any _ L _ (HRL.out _ HO.out) HSM.out (HT.out.on HB.out)).mono ?_
        rintro e w9 ⟨rfl, hb⟩
        replace HO := Lib.hid (HO.out.on hb)
        replace HO' := Lib.hid (HO'.out.on hb)
        replace HR6 := Lib.hid (HR6.out.on hb)
        replace HB := Lib.hid (below_then HB.out hb)
        clear hb
        go_wp2_with fail
        refine (sshow_any _ M _ (HRM.out _ HO'.out) HSM'.out (HT.out.on HB.out)).mono ?_
        rintro e w10 ⟨rfl, hb⟩
        replace HO := Lib.hid (HO.out.on hb)
        replace HO' := Lib.hid (HO'.out.on hb)
        replace HR6 := Lib.hid (HR6.out.on hb)
        replace HB := Lib.hid (below_then HB.out hb)
        clear hb
        generalize showS L = sL at *
        generalize showS M = sM at *
        obtain ⟨dL, hdL⟩ : ∃ d, depthS L = d := ⟨_, rfl⟩
        obtain ⟨dM, hdM⟩ : ∃ d, depthS M = d := ⟨_, rfl⟩
        rw [hdL, hdM] at J4
        have JL := Lib.hid hdL
        have JM := Lib.hid hdM
        clear hdL hdM
        have hsame : ((sL ++ sM) == ((⟨sL.toArray⟩ : ByteArray) ++ ⟨sM.toArray⟩).toList) = true := by rw [str_app, ByteArray.toList_eq]; simp
        go_wp2_with fail
        refine (sdepth_any _ (L ++ M) _ HR6.out HSA.out (HT.out.on HB.out)).mono ?_
        rw [J4.out]
        rintro e w11 ⟨rfl, hb⟩
        replace HO := Lib.hid (HO.out.on hb)
        replace HO' := Lib.hid (HO'.out.on hb)
        replace HB := Lib.hid (below_then HB.out hb)
        clear hb
        go_wp2_with fail
        refine (sdepth_any _ L _ (HRL.out _ HO.out) HSM.out (HT.out.on HB.out)).mono ?_
        rw [JL.out]
        rintro e w12 ⟨rfl, hb⟩
        replace HO' := Lib.hid (HO'.out.on hb)
        replace HB := Lib.hid (below_then HB.out hb)
        clear hb
        go_wp2_with fail
        refine (sdepth_any _ M _ (HRM.out _ HO'.out) HSM'.out (HT.out.on HB.out)).mono ?_
        rw [JM.out]
        rintro e w13 ⟨rfl, hb⟩
        replace HB := Lib.hid (below_then HB.out hb)
        clear hb
        go_wp2_with fail
        refine (fixed_any _ (HT.out.on HB.out)).mono ?_
        rintro e w14 ⟨rfl, hb⟩
        go_wp2_with fail
        go_ret
        exact ⟨rfl, below_then HB.out hb⟩
      · have j1 : Hid (rightS (L ++ M) = false) := Lib.hid (by rw [HJ1.out]; exact decide_eq_false h40)
        have hi40 : (40 : Int) < (L.length : Int) + (M.length : Int) := by omega
        go_wp2_with fail
        refine (sright_any _ (L ++ M) _ HR6.out HSA.out (HT.out.on HB.out)).mono ?_
        rw [j1.out]
        rintro e w7 ⟨rfl, hb⟩
        replace HB := Lib.hid (below_then HB.out hb)
        clear hb
        go_wp2_with fail
        refine (fixed_any _ (HT.out.on HB.out)).mono ?_
        rintro e w14 ⟨rfl, hb⟩
        go_wp2_with fail
        go_ret
        exact ⟨rfl, below_then HB.out hb⟩
end Go.Proofs.YtpeohfgadnfnpaaGreatDoor
