/-
  DERIVED. Layer 4: the walk of the law StmtWraps: for all statements it is true.
-/
import Derived.Test.YtpeohfgadnfnpaaGreatDoorP48
namespace Go.Proofs.YtpeohfgadnfnpaaGreatDoor
open Go.RowKit

theorem one_node (w : World) {B : Nat} (hB : B ≤ w.heap.size) : ReadE B (w.alloc (.cells #[.int .i64 1, .int .i64 1, .string ⟨#[]⟩, .int .i64 0] 33)) (.slice (some ⟨w.heap.size, 0, none⟩) 1 1) [⟨1, 1, [], 0⟩] :=
  OwnN.readE (B := w.heap.size) ⟨rfl, .inr ⟨w.heap.size, 1, _, rfl, Nat.le_refl _, heap_alloc_new w _, by decide, by decide, rfl, rfl⟩⟩ hB
theorem and_low (n : Int) (m : Nat) (hm : m ≤ 65535) : 0 ≤ bits .and .i64 n m ∧ bits .and .i64 n m ≤ m := by
  have e : bits .and .i64 n m = IntKind.i64.wrap ((BitVec.ofInt 64 n &&& BitVec.ofInt 64 m).toNat : Int) := rfl
  have h : (BitVec.ofInt 64 n &&& BitVec.ofInt 64 m).toNat ≤ m := by
    rw [BitVec.toNat_and]
    refine Nat.le_trans Nat.and_le_right ?_
    rw [BitVec.toNat_ofInt]; omega
  rw [e, IntKind.wrap_i64]
  omega
/-- What an expression is with a sign ahead of it. -/
theorem small_loop (n : Int) (k : Nat) : SmallS ⟨12, [], [], [], [], n, k, 0, 0⟩ := ⟨by simp, by simp, by simp, by simp, fun a h => (by cases h), fun a h => (by cases h)⟩
theorem small_if (k : Nat) : SmallS ⟨11, [], [], [⟨1, 1, [], 0⟩], [], 0, k, k, 0⟩ := ⟨by simp, by simp, by simp, by simp, fun a h => (by simp at h; rw [h]; simp), fun a h => (by cases h)⟩
theorem row_raise {w : World} {B B' g n c : Nat} {xs : List Value} {k : Nat} (h : w.ownsRow B 31 9 (.slice (some ⟨g, 0, none⟩) n c) k xs) (hg : B' = g) : w.ownsRow B' 31 9 (.slice (some ⟨g, 0, none⟩) n c) k xs := by
  refine ⟨h.1, ?_⟩
  rcases h.2 with ⟨h0, _⟩ | ⟨g', cap, cur, h1, h2, r⟩
  · cases h0
  · refine .inr ⟨g', cap, cur, h1, ?_, r⟩
    simp only [Value.slice.injEq, Option.some.injEq, Addr.mk.injEq] at h1
    omega
set_option maxRecDepth 100000 in
set_option maxHeartbeats 16000000 in
theorem wraps_any (A : Option Addr) (n c : Nat) (R : Nat → RawS) (i : Int) (w : World) (hA : ArgS w A n R) (ht : Tabs w) :
    Calls Tryz.prog 9 #[.slice A n c, .int .i64 i] w (IsTrue w) := by
  obtain ⟨i0, hi, hz0, hz1, hz2⟩ := info_parts infoStm
  have HZ := Lib.hid (show Tryz.prog.info? 31 = some i0 ∧ i0.zero = some (.agg #[.int .i64 0, .string ⟨#[]⟩, .string ⟨#[]⟩, .slice none 0 0, .slice none 0 0, .int .i64 0, .int .i64 0, .int .i64 0, .int .i64 0]) ∧ i0.size = 9 ∧ i0.bytes = 120 from ⟨hi, hz0, hz1, hz2⟩)
  have HA := Lib.hid hA
  have HT := Lib.hid ht
  have hll := rawS_len R (min n 50)
  have HSM := Lib.hid (rawS_small R (min n 50))
  have hq7 : 0 ≤ bits .and .i64 i 7 ∧ bits .and .i64 i 7 ≤ 7 := and_low i 7 (by decide)
  clear hi hz0 hz1 hz2 hA ht
  go_enter Tryz.func9, Tryz.ntmps9
  go_wp2_with fail
  refine (cutK_any A n c R _ HA.out).mono ?_
  generalize rawS R (min n 50) = L at *
  have hl50 : L.length ≤ 50 := by omega
  clear hll
  rintro e w1 ⟨g1, cap1, K1, rfl, hm1, ho1, hb⟩
  have HB := Lib.hid hb
  have HO := Lib.hid ho1
  have HM := Lib.hid hm1
  clear ho1 hb hm1
  have hRL : ∀ u, OwnK u w.heap.size (.slice (some ⟨g1, 0, none⟩) L.length cap1) K1 → ReadSt u (.slice (some ⟨g1, 0, none⟩) L.length cap1) L := fun u h => by rw [← HM.out]; rw [← HM.out] at h; exact h.read
  have HRL := Lib.hid hRL
  clear hRL
  go_wp2_with fail
  refine (sright_any _ L _ (HRL.out _ HO.out) HSM.out (HT.out.on HB.out)).mono ?_
  cases hr : rightS L with
  | false =>
    rintro e w3 ⟨rfl, hb⟩
    replace HB := Lib.hid (below_then HB.out hb)
    clear hb
    go_wp2_with fail
    refine (fixed_any _ (HT.out.on HB.out)).mono ?_
    rintro e w4 ⟨rfl, hb⟩
    go_wp2_with fail
    go_ret
    exact ⟨rfl, below_then HB.out hb⟩
  | true =>
    obtain ⟨a, ha⟩ : ∃ a, bits .and .i64 i 7 = a := ⟨_, rfl⟩
    rw [ha] at hq7
    obtain ⟨l1, l2⟩ := wraps_loop hr (n := 1 + a) (by omega) rfl
    obtain ⟨f1, f2⟩ := wraps_if hr rfl
    obtain ⟨dL, hdL⟩ : ∃ d, depthS L = d := ⟨_, rfl⟩
    have hd0 : 0 ≤ dL ∧ dL ≤ 12 := by
      obtain ⟨b, rfl, g1, g2, g3, g4, _⟩ := rightS_some hr
      rw [depthS_right g1.1 hr] at hdL
      omega
    rw [hdL] at l1 l2 f1 f2
    have JL := Lib.hid hdL
    have L1 := Lib.hid l1
    have L2 := Lib.hid l2
    have F1 := Lib.hid f1
    have F2 := Lib.hid f2
    clear hr l1 l2 f1 f2 hdL
    rintro e w2 ⟨rfl, hb⟩
    replace HO := Lib.hid (HO.out.on hb)
    replace HB := Lib.hid (below_then HB.out hb)
    clear hb
    go_wp2_with fail
    refine (sdepth_any _ L _ (HRL.out _ HO.out) HSM.out (HT.out.on HB.out)).mono ?_
    rw [JL.out]
    rintro e w3 ⟨rfl, hb⟩
    replace HO := Lib.hid (HO.out.on hb)
    replace HB := Lib.hid (below_then HB.out hb)
    clear hb
    have hK1 : K1.length = L.length := by rw [← HM.out, List.length_map]
    have HK1 := Lib.hid hK1
    have hsz := HB.out.size
    have HLT : Hid (g1 < w3.heap.size) := Lib.hid (row_lt HO.out.row g1 rfl)
    have hwa : IntKind.i64.wrap (1 + a) = 1 + a := IntWalk.i64_in _ (by omega)
    clear hK1
    obtain ⟨x1, hx1⟩ : ∃ x : Sv, x = ⟨⟨12, [], [], [], [], 1 + a, L.length, 0, 0⟩, .slice none 0 0, .slice none 0 0⟩ := ⟨_, rfl⟩
    have HX1 := Lib.hid hx1
    have HW1 : Hid (OwnK (w3.alloc (.cells #[.int .i64 12, .string ⟨#[]⟩, .string ⟨#[]⟩, .slice none 0 0, .slice none 0 0, .int .i64 (1 + a), .int .i64 L.length, .int .i64 0, .int .i64 0] 31)) w.heap.size (.slice (some ⟨w3.heap.size, 0, none⟩) 1 1) [x1]) := Lib.hid (ownK_one w3 (x := x1) (by rw [hx1]; exact readE_nil _ _) (by rw [hx1]; exact readE_nil _ _) hsz (by rw [hx1]; rfl))
    have hbn := (Below.refl w3.heap.size w3).alloc (Nat.le_refl _) (.cells #[.int .i64 12, .string ⟨#[]⟩, .string ⟨#[]⟩, .slice none 0 0, .slice none 0 0, .int .i64 (1 + a), .int .i64 L.length, .int .i64 0, .int .i64 0] 31)
    have HBN := Lib.hid hbn
    clear hx1 hbn
    go_wp2_with (at_builtin; refine wpList_append_own _ rfl (.tmp 24) (.tmp 25) 24 rfl w3.heap.size 31 i0 (.agg #[.int .i64 0, .string ⟨#[]⟩, .string ⟨#[]⟩, .slice none 0 0, .slice none 0 0, .int .i64 0, .int .i64 0, .int .i64 0, .int .i64 0]) 9 120 Tryz.underlying24 HZ.out.1 HZ.out.2.1 HZ.out.2.2.1 HZ.out.2.2.2 rfl (by decide) _ 1 (cellsV [x1]) rfl ?dO ⟨g1, 0, none⟩ L.length cap1 (cellsV K1) rfl ?dl ?d1 ?d2 ?d3 ?d4 ?d5 ?_)
    case dO => exact row_raise HW1.out.row rfl
    case dl => rw [cellsV_len, HK1.out]
    case d1 => exact (HO.out.on HBN.out).news
    case d2 => exact cellsV_one HO.out.rds
    case d3 => unfold maxLen; omega
    case d4 => omega
    case d5 => simp
    intro v5 w5 hown5 hgrow5 _
    have hO5 : OwnK w5 w.heap.size v5 ([x1] ++ K1) := HW1.out.app (HO.out.on HBN.out).rds (by rw [HK1.out]; exact row_low hown5 hsz) hgrow5
    have hk5 := (KeepP.of (P := fun q => q = w3.heap.size) HBN.out).trans (KeepP.grown hgrow5) (R := fun q => q = w3.heap.size) (fun _ _ h => h) (fun q _ h => by simpa [Value.ownBlock] using h.symm)
    have hB5 : Below w3.heap.size w3 w5 := hk5.below (fun q hq e => by omega) (Nat.le_refl _)
    replace HO := Lib.hid (HO.out.on hB5)
    have HO5 := Lib.hid hO5
    replace HB := Lib.hid (below_then HB.out hB5)
    replace HLT : Hid (g1 < w5.heap.size) := Lib.hid (by have := HLT.out; have := hB5.size; omega)
    obtain ⟨A5, c5, rfl⟩ := row_slice hO5.row
    rw [show ([x1] ++ K1).length = L.length + 1 from by rw [List.length_append, HK1.out]; simp; omega] at HO5 ⊢
    have hsz5 := HB.out.size
    have HO5lt : Hid (∀ q, (Value.slice A5 (L.length + 1) c5).ownBlock = some q → q < w5.heap.size) := Lib.hid (row_lt HO5.out.row)
    clear hown5 hgrow5 hO5 hk5 hB5 hsz HBN HW1 hwa
    obtain ⟨x2, hx2⟩ : ∃ x : Sv, x = ⟨⟨11, [], [], [⟨1, 1, [], 0⟩], [], 0, L.length, L.length, 0⟩, .slice (some ⟨w5.heap.size, 0, none⟩) 1 1, .slice none 0 0⟩ := ⟨_, rfl⟩
    have HX2 := Lib.hid hx2
    have hbe := (Below.refl w5.heap.size w5).alloc (Nat.le_refl _) (.cells #[.int .i64 1, .int .i64 1, .string ⟨#[]⟩, .int .i64 0] 33)
    have hE := one_node w5 hsz5
    obtain ⟨w6, hw6⟩ : ∃ w6, w5.alloc (.cells #[.int .i64 1, .int .i64 1, .string ⟨#[]⟩, .int .i64 0] 33) = w6 := ⟨_, rfl⟩
    rw [hw6] at hbe hE
    have hs6 : w6.heap.size = w5.heap.size + 1 := by rw [← hw6]; simp
    have hW2 : OwnK (w6.alloc (.cells #[.int .i64 11, .string ⟨#[]⟩, .string ⟨#[]⟩, .slice (some ⟨w5.heap.size, 0, none⟩) 1 1, .slice none 0 0, .int .i64 0, .int .i64 L.length, .int .i64 L.length, .int .i64 0] 31)) w.heap.size (.slice (some ⟨w6.heap.size, 0, none⟩) 1 1) [x2] := ownK_one w6 (x := x2) (by rw [hx2]; exact hE) (by rw [hx2]; exact readE_nil _ _) (by omega) (by rw [hx2]; rfl)
    have hbn := (Below.refl w6.heap.size w6).alloc (Nat.le_refl _) (.cells #[.int .i64 11, .string ⟨#[]⟩, .string ⟨#[]⟩, .slice (some ⟨w5.heap.size, 0, none⟩) 1 1, .slice none 0 0, .int .i64 0, .int .i64 L.length, .int .i64 L.length, .int .i64 0] 31)
    have hb7 := below_then hbe hbn
    obtain ⟨w7, hw7⟩ : ∃ w7, w6.alloc (.cells #[.int .i64 11, .string ⟨#[]⟩, .string ⟨#[]⟩, .slice (some ⟨w5.heap.size, 0, none⟩) 1 1, .slice none 0 0, .int .i64 0, .int .i64 L.length, .int .i64 L.length, .int .i64 0] 31) = w7 := ⟨_, rfl⟩
    rw [hw7] at hW2 hb7
    have hs7 : w7.heap.size = w5.heap.size + 2 := by rw [← hw7]; simp; omega
    rw [hs6] at hW2
    have HW2 := Lib.hid hW2
    have HB7 := Lib.hid hb7
    have HS7 := Lib.hid hs7
    have HW7 : Hid ((w5.alloc (.cells #[.int .i64 1, .int .i64 1, .string ⟨#[]⟩, .int .i64 0] 33)).alloc (.cells #[.int .i64 11, .string ⟨#[]⟩, .string ⟨#[]⟩, .slice (some ⟨w5.heap.size, 0, none⟩) 1 1, .slice none 0 0, .int .i64 0, .int .i64 L.length, .int .i64 L.length, .int .i64 0] 31) = w7) := Lib.hid (by rw [hw6, hw7])
    clear hx2 hbe hE hw6 hs6 hW2 hbn hb7 hw7 hs7
    go_wp2_with (at_builtin; refine wpList_append_own _ rfl (.tmp 34) (.tmp 35) 24 rfl (w5.heap.size + 1) 31 i0 (.agg #[.int .i64 0, .string ⟨#[]⟩, .string ⟨#[]⟩, .slice none 0 0, .slice none 0 0, .int .i64 0, .int .i64 0, .int .i64 0, .int .i64 0]) 9 120 Tryz.underlying24 HZ.out.1 HZ.out.2.1 HZ.out.2.2.1 HZ.out.2.2.2 rfl (by decide) _ 1 (cellsV [x2]) rfl ?dO ⟨g1, 0, none⟩ L.length cap1 (cellsV K1) rfl ?dl ?d1 ?d2 ?d3 ?d4 ?d5 ?_)
    case dO => rw [HW7.out]; exact row_raise HW2.out.row rfl
    case dl => rw [cellsV_len, HK1.out]
    case d1 => rw [HW7.out]; exact (HO.out.on HB7.out).news
    case d2 => exact cellsV_one HO.out.rds
    case d3 => unfold maxLen; omega
    case d4 => omega
    case d5 => simp
    intro v8 w8 hown8 hgrow8 _
    rw [HW7.out] at hgrow8
    have hO8 : OwnK w8 w.heap.size v8 ([x2] ++ K1) := HW2.out.app (HO.out.on HB7.out).rds (by rw [HK1.out]; exact row_low hown8 (by omega)) hgrow8
    have hk8 := (KeepP.of (P := fun q => q = w5.heap.size + 1) HB7.out).trans (KeepP.grown hgrow8) (R := fun q => q = w5.heap.size + 1) (fun _ _ h => h) (fun q _ h => by simpa [Value.ownBlock] using h.symm)
    have hB8 : Below w5.heap.size w5 w8 := hk8.below (fun q hq e => by omega) (Nat.le_refl _)
    replace HO := Lib.hid (HO.out.on hB8)
    replace HO5 := Lib.hid (HO5.out.on hB8)
    have HO8 := Lib.hid hO8
    replace HB := Lib.hid (below_then HB.out hB8)
    have HNE : Hid (∀ q, v8.ownBlock = some q → w5.heap.size ≤ q) := Lib.hid (fun q hq => by have := (row_type hown8 q hq).1; omega)
    have HG5 : Hid (∀ q, (Value.slice A5 (L.length + 1) c5).ownBlock = some q → q < w5.heap.size) := Lib.hid HO5lt.out
    have hsz8 := HB.out.size
    clear hown8 hgrow8 hO8 hk8 hB8 HB7 HW2 HW7
    go_wp2_with (at_builtin; refine wpList_append_own _ rfl (.tmp 37) (.tmp 38) 24 rfl w.heap.size 31 i0 (.agg #[.int .i64 0, .string ⟨#[]⟩, .string ⟨#[]⟩, .slice none 0 0, .slice none 0 0, .int .i64 0, .int .i64 0, .int .i64 0, .int .i64 0]) 9 120 Tryz.underlying24 HZ.out.1 HZ.out.2.1 HZ.out.2.2.1 HZ.out.2.2.2 rfl (by decide) _ ([x2] ++ K1).length (cellsV ([x2] ++ K1)) rfl ?dO ⟨g1, 0, none⟩ L.length cap1 (cellsV K1) rfl ?dl ?d1 ?d2 ?d3 ?d4 ?d5 ?_)
    case dO => exact HO8.out.row
    case dl => rw [cellsV_len, HK1.out]
    case d1 => exact HO.out.news
    case d2 => exact cellsV_one HO.out.rds
    case d3 => rw [List.length_append, HK1.out]; simp only [List.length_cons, List.length_nil]; unfold maxLen; omega
    case d4 => rw [List.length_append, HK1.out]; simp only [List.length_cons, List.length_nil]; omega
    case d5 => exact hsz8
    intro v9 w9 hown9 hgrow9 _
    have hO9 : OwnK w9 w.heap.size v9 ([x2] ++ K1 ++ K1) := HO8.out.app HO.out.rds (by rw [HK1.out]; exact hown9) hgrow9
    have hk9 := KeepP.grown hgrow9
    have hn9 := row_nodes HO8.out.row
    replace HO := Lib.hid (HO.out.keep hk9 (fun q hq e => by have := HNE.out q e; have := HLT.out; simp [Value.ownBlock] at hq; omega) hn9)
    replace HO5 := Lib.hid (HO5.out.keep hk9 (fun q hq e => by have := HNE.out q e; have := HG5.out q hq; omega) hn9)
    replace HB := Lib.hid (HB.out.trans (HO8.out.below hgrow9 (Nat.le_refl _) hsz8))
    obtain ⟨A9, c9, rfl⟩ := row_slice hO9.row
    have hlen9 : ([x2] ++ K1 ++ K1).length = 2 * L.length + 1 := by simp only [List.length_append, HK1.out, List.length_cons, List.length_nil]; omega
    rw [hlen9] at hO9 ⊢
    obtain ⟨y1, hy1⟩ : ∃ y : Stm, y = ⟨12, [], [], [], [], 1 + a, L.length, 0, 0⟩ := ⟨_, rfl⟩
    obtain ⟨y2, hy2⟩ : ∃ y : Stm, y = ⟨11, [], [], [⟨1, 1, [], 0⟩], [], 0, L.length, L.length, 0⟩ := ⟨_, rfl⟩
    have HR5 : Hid (ReadSt w9 (.slice A5 (L.length + 1) c5) (y1 :: L)) := Lib.hid (by
      have := HO5.out.read
      rw [List.map_append, HM.out, HX1.out] at this
      rw [hy1]; exact this)
    have HR9 : Hid (ReadSt w9 (.slice A9 (2 * L.length + 1) c9) (y2 :: (L ++ L))) := Lib.hid (by
      have := hO9.read
      rw [List.map_append, List.map_append, HM.out, HX2.out, List.append_assoc] at this
      rw [hy2]; exact this)
    rw [← hy1] at L1 L2
    rw [← hy2] at F1 F2
    have HS5 : Hid (∀ x ∈ y1 :: L, SmallS x) := Lib.hid (fun x hx => (List.mem_cons.1 hx).elim (fun h => by rw [h, hy1]; exact small_loop _ _) (HSM.out x))
    have HS9 : Hid (∀ x ∈ y2 :: (L ++ L), SmallS x) := Lib.hid (fun x hx => (List.mem_cons.1 hx).elim (fun h => by rw [h, hy2]; exact small_if _) (fun h => (List.mem_append.1 h).elim (HSM.out x) (HSM.out x)))
    clear hown9 hgrow9 hO9 hk9 hn9 hlen9 hsz8 HO8 HNE HLT HG5 hy1 hy2 HX1 HX2 HO5
    have hw2 : IntKind.i64.wrap (2 * (L.length : Int)) = 2 * L.length := IntWalk.i64_in _ (by omega)
    have hwd : IntKind.i64.wrap (dL + 1) = dL + 1 := IntWalk.i64_in _ (by omega)
    by_cases h1 : dL < 12
    case neg =>
      have E1 : Hid (rightS (y1 :: L) = false) := Lib.hid (by rw [L1.out]; simp; omega)
      have E2 : Hid (rightS (y2 :: (L ++ L)) = false) := Lib.hid (by rw [F1.out]; simp; omega)
      clear L1 L2 F1 F2
      go_wp2_with fail
      refine (sright_any _ (y1 :: L) _ HR5.out HS5.out (HT.out.on HB.out)).mono ?_
      rw [E1.out]
      rintro e wq ⟨rfl, hb⟩
      replace HR5 := Lib.hid (HR5.out.on hb)
      replace HR9 := Lib.hid (HR9.out.on hb)
      replace HB := Lib.hid (below_then HB.out hb)
      clear hb
      go_wp2_with fail
      refine (sright_any _ (y2 :: (L ++ L)) _ HR9.out HS9.out (HT.out.on HB.out)).mono ?_
      rw [E2.out]
      rintro e wq ⟨rfl, hb⟩
      replace HR5 := Lib.hid (HR5.out.on hb)
      replace HR9 := Lib.hid (HR9.out.on hb)
      replace HB := Lib.hid (below_then HB.out hb)
      clear hb
      go_wp2_with fail
      refine (fixed_any _ (HT.out.on HB.out)).mono ?_
      rintro e wq ⟨rfl, hb⟩
      replace HB := Lib.hid (below_then HB.out hb)
      clear hb
      go_wp2_with fail
      go_ret
      exact ⟨rfl, HB.out⟩
    case pos =>
    by_cases h2 : L.length < 40
    case neg =>
      have h2i : ¬ (L.length : Int) < 40 := by omega
      have h3i : ¬ 2 * (L.length : Int) < 40 := by omega
      have E1 : Hid (rightS (y1 :: L) = false) := Lib.hid (by rw [L1.out]; simp; omega)
      have E2 : Hid (rightS (y2 :: (L ++ L)) = false) := Lib.hid (by rw [F1.out]; simp; omega)
      clear L1 L2 F1 F2
      go_wp2_with fail
      refine (sright_any _ (y1 :: L) _ HR5.out HS5.out (HT.out.on HB.out)).mono ?_
      rw [E1.out]
      rintro e wq ⟨rfl, hb⟩
      replace HR5 := Lib.hid (HR5.out.on hb)
      replace HR9 := Lib.hid (HR9.out.on hb)
      replace HB := Lib.hid (below_then HB.out hb)
      clear hb
      go_wp2_with fail
      refine (sright_any _ (y2 :: (L ++ L)) _ HR9.out HS9.out (HT.out.on HB.out)).mono ?_
      rw [E2.out]
      rintro e wq ⟨rfl, hb⟩
      replace HR5 := Lib.hid (HR5.out.on hb)
      replace HR9 := Lib.hid (HR9.out.on hb)
      replace HB := Lib.hid (below_then HB.out hb)
      clear hb
      go_wp2_with fail
      refine (fixed_any _ (HT.out.on HB.out)).mono ?_
      rintro e wq ⟨rfl, hb⟩
      replace HB := Lib.hid (below_then HB.out hb)
      clear hb
      go_wp2_with fail
      go_ret
      exact ⟨rfl, HB.out⟩
    case pos =>
    have h2i : (L.length : Int) < 40 := by omega
    by_cases h3 : 2 * L.length < 40
    case neg =>
      have h3i : ¬ 2 * (L.length : Int) < 40 := by omega
      have E1 : Hid (rightS (y1 :: L) = true) := Lib.hid (by rw [L1.out]; simp; omega)
      have E2 : Hid (rightS (y2 :: (L ++ L)) = false) := Lib.hid (by rw [F1.out]; simp; omega)
      have D1 : Hid (depthS (y1 :: L) = dL + 1) := Lib.hid (L2.out E1.out)
      clear L1 L2 F1 F2
      go_wp2_with fail
      refine (sright_any _ (y1 :: L) _ HR5.out HS5.out (HT.out.on HB.out)).mono ?_
      rw [E1.out]
      rintro e wq ⟨rfl, hb⟩
      replace HR5 := Lib.hid (HR5.out.on hb)
      replace HR9 := Lib.hid (HR9.out.on hb)
      replace HB := Lib.hid (below_then HB.out hb)
      clear hb
      go_wp2_with fail
      refine (sright_any _ (y2 :: (L ++ L)) _ HR9.out HS9.out (HT.out.on HB.out)).mono ?_
      rw [E2.out]
      rintro e wq ⟨rfl, hb⟩
      replace HR5 := Lib.hid (HR5.out.on hb)
      replace HR9 := Lib.hid (HR9.out.on hb)
      replace HB := Lib.hid (below_then HB.out hb)
      clear hb
      go_wp2_with fail
      refine (sdepth_any _ (y1 :: L) _ HR5.out HS5.out (HT.out.on HB.out)).mono ?_
      rw [D1.out]
      rintro e wq ⟨rfl, hb⟩
      replace HR9 := Lib.hid (HR9.out.on hb)
      replace HB := Lib.hid (below_then HB.out hb)
      clear hb
      go_wp2_with fail
      refine (fixed_any _ (HT.out.on HB.out)).mono ?_
      rintro e wq ⟨rfl, hb⟩
      replace HB := Lib.hid (below_then HB.out hb)
      clear hb
      go_wp2_with fail
      go_ret
      exact ⟨rfl, HB.out⟩
    case pos =>
      have h3i : 2 * (L.length : Int) < 40 := by omega
      have E1 : Hid (rightS (y1 :: L) = true) := Lib.hid (by rw [L1.out]; simp; omega)
      have E2 : Hid (rightS (y2 :: (L ++ L)) = true) := Lib.hid (by rw [F1.out]; simp; omega)
      have D1 : Hid (depthS (y1 :: L) = dL + 1) := Lib.hid (L2.out E1.out)
      have D2 : Hid (depthS (y2 :: (L ++ L)) = dL + 1) := Lib.hid (F2.out E2.out)
      clear L1 L2 F1 F2
      go_wp2_with fail
      refine (sright_any _ (y1 :: L) _ HR5.out HS5.out (HT.out.on HB.out)).mono ?_
      rw [E1.out]
      rintro e wq ⟨rfl, hb⟩
      replace HR5 := Lib.hid (HR5.out.on hb)
      replace HR9 := Lib.hid (HR9.out.on hb)
      replace HB := Lib.hid (below_then HB.out hb)
      clear hb
      go_wp2_with fail
      refine (sright_any _ (y2 :: (L ++ L)) _ HR9.out HS9.out (HT.out.on HB.out)).mono ?_
      rw [E2.out]
      rintro e wq ⟨rfl, hb⟩
      replace HR5 := Lib.hid (HR5.out.on hb)
      replace HR9 := Lib.hid (HR9.out.on hb)
      replace HB := Lib.hid (below_then HB.out hb)
      clear hb
      go_wp2_with fail
      refine (sdepth_any _ (y1 :: L) _ HR5.out HS5.out (HT.out.on HB.out)).mono ?_
      rw [D1.out]
      rintro e wq ⟨rfl, hb⟩
      replace HR9 := Lib.hid (HR9.out.on hb)
      replace HB := Lib.hid (below_then HB.out hb)
      clear hb
      go_wp2_with fail
      refine (sdepth_any _ (y2 :: (L ++ L)) _ HR9.out HS9.out (HT.out.on HB.out)).mono ?_
      rw [D2.out]
      rintro e wq ⟨rfl, hb⟩
      replace HB := Lib.hid (below_then HB.out hb)
      clear hb
      go_wp2_with fail
      refine (fixed_any _ (HT.out.on HB.out)).mono ?_
      rintro e wq ⟨rfl, hb⟩
      replace HB := Lib.hid (below_then HB.out hb)
      clear hb
      go_wp2_with fail
      go_ret
      exact ⟨rfl, HB.out⟩
end Go.Proofs.YtpeohfgadnfnpaaGreatDoor
