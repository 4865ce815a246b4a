/-
  DERIVED. Texts of the walk, packed: PrimeA, PrimeB.
-/
import Derived.Test.YtpeohfgadnfnpaaGreatDoorQ26
import Derived.Test.YtpeohfgadnfnpaaGreatDoorQ07
/-
  DERIVED. Layer 3: the document's prime (leadlineref03): where nothing stands, where it is too deep, at a number, at a name, at anything else.
-/
namespace Go.Proofs.YtpeohfgadnfnpaaGreatDoor
open Go.RowKit

theorem rgives_box {L : List Tok} {r : Res} {w W : World} {A : Option Addr} {n c : Nat} (ho : OwnN W (w.heap.size + 1) (.slice A n c) (nodesOf r)) (hb : Below w.heap.size w W) {to : Nat} {er pl : Int} (h1 : to = toOf r) (h2 : er = errOf r) (h3 : pl = plOf L r) (a b d e : Value) :
    RGives L r w (.returned (.agg #[.slice A n c, .int .i64 (to : Nat), .int .i64 er, .int .i64 pl])) ((((W.setCell ⟨w.heap.size, 0, none⟩ a).setCell ⟨w.heap.size, 1, none⟩ b).setCell ⟨w.heap.size, 2, none⟩ d).setCell ⟨w.heap.size, 3, none⟩ e) := by
  subst h1 h2 h3
  exact ⟨A, n, c, rfl, (ho.away (g := w.heap.size) (fun q hq => by have := (ownN_block ho q hq).1; omega) ((((Keeps.refl _ _).set).set).set).set).base (by omega), below_set4R hb (Nat.le_refl _) a b d e⟩
theorem rbad_at {L : List Tok} {i : Nat} {er ee : Int} (he : (if L.length ≤ i then 6 else er) = ee) (v : Value) (w : World) (h : ReadT w v L) (hl : L.length ≤ 10000) (hs : SmallT L) : Calls Tryz.prog 154 #[v, .int .i64 i, .int .i64 er] w (SaysBad ee (placeV L i) w) := by
  subst he; exact rbad_any v L i er w h hl hs
theorem ris_at {L : List Tok} {i : Nat} {s : List UInt8} {q : Bool} (hq : isB L i s = q) (v : Value) (w : World) (h : ReadT w v L) : Calls Tryz.prog 44 #[v, .int .i64 i, .string ⟨s.toArray⟩] w (TellsB q w) := by
  have := ris_any v L i ⟨s.toArray⟩ w h
  rwa [show (ByteArray.mk s.toArray).data.toList = s from by simp, hq] at this

set_option maxRecDepth 100000 in
set_option maxHeartbeats 4000000 in
theorem prime_out (L : List Tok) (i d : Nat) (v : Value) (w : World) (h : ReadT w v L) (hl : L.length ≤ 10000) (hs : SmallT L) (hi : L.length ≤ i) : Calls Tryz.prog 145 #[v, .int .i64 i, .int .i64 d] w (RGives L (.bad 6 i) w) := by
  have HR := Lib.hid h
  have HS := Lib.hid hs
  obtain ⟨A, c, rfl, hc, _⟩ := h
  have f1 : (L.length : Int) ≤ (i : Int) := by omega
  have HB0 := Lib.hid ((Below.refl w.heap.size w).alloc (Nat.le_refl _) (.cells #[.slice none 0 0, .int .i64 0, .int .i64 0, .int .i64 0] 160))
  have HP0 := Lib.hid (pq_new w (.slice none 0 0) (.int .i64 0) (.int .i64 0) (.int .i64 0) 160)
  have HE : Hid ((if L.length ≤ i then (6 : Int) else 6) = 6) := Lib.hid (by split <;> rfl)
  clear hs
  go_enter Tryz.func145, Tryz.ntmps145
  go_wp2_with fail
  refine (rbad_at HE.out _ _ (HR.out.on HB0.out) hl HS.out).mono ?_
  rintro e w1 ⟨rfl, hb⟩
  have HB1 := Lib.hid (below_then HB0.out hb)
  obtain ⟨p0, p1, p2, p3, p4, p5, p6, p7, p8⟩ := HP0.out.on hb
  clear hb
  have HPL : Hid (placeV L i = plOf L (.bad 6 i)) := Lib.hid rfl
  generalize placeV L i = pl at *
  go_wp2_with fail
  refine bodyPost_ret (v := .agg #[.slice none 0 0, .int .i64 0, .int .i64 6, .int .i64 pl]) (by simp [results, Tryz.results145, go_sem, *]) rfl ?_
  exact rgives_box (r := .bad 6 i) (to := 0) (ownN_nil _ _) HB1.out rfl rfl HPL.out _ _ _ _

set_option maxRecDepth 100000 in
set_option maxHeartbeats 8000000 in
theorem prime_deep (L : List Tok) (i : Nat) (v : Value) (w : World) (h : ReadT w v L) (hl : L.length ≤ 10000) (hs : SmallT L) (hi : i < L.length) (hx : isB L i [33] = true ∨ isB L i [45] = true ∨ isB L i [40] = true) :
    Calls Tryz.prog 145 #[v, .int .i64 i, .int .i64 12] w (RGives L (.bad 7 i) w) := by
  have HR := Lib.hid h
  have HS := Lib.hid hs
  obtain ⟨A, c, rfl, hc, _⟩ := h
  have f1 : ¬ (L.length : Int) ≤ (i : Int) := by omega
  have HB0 := Lib.hid ((Below.refl w.heap.size w).alloc (Nat.le_refl _) (.cells #[.slice none 0 0, .int .i64 0, .int .i64 0, .int .i64 0] 160))
  have HP0 := Lib.hid (pq_new w (.slice none 0 0) (.int .i64 0) (.int .i64 0) (.int .i64 0) 160)
  have HE : Hid ((if L.length ≤ i then (6 : Int) else 7) = 7) := Lib.hid (if_neg (by omega))
  have HPL : Hid (placeV L i = plOf L (.bad 7 i)) := Lib.hid rfl
  clear hs
  cases q1 : isB L i [33] with
  | true =>
    have HQ1 := Lib.hid q1
    cases q3 : isB L i [40] with
    | true => exact absurd (isB_one q1 q3) (by decide)
    | false =>
      have HQ3 := Lib.hid q3
      clear hx q1 q3
      go_enter Tryz.func145, Tryz.ntmps145
      go_wp2_with fail
      refine (ris_at HQ1.out _ _ (HR.out.on HB0.out)).mono ?_
      rintro e w1 ⟨rfl, hb⟩
      replace HB0 := Lib.hid (below_then HB0.out hb)
      replace HP0 := Lib.hid (HP0.out.on hb)
      clear hb
      go_wp2_with fail
      refine (ris_at HQ3.out _ _ (HR.out.on HB0.out)).mono ?_
      rintro e w2 ⟨rfl, hb⟩
      replace HB0 := Lib.hid (below_then HB0.out hb)
      replace HP0 := Lib.hid (HP0.out.on hb)
      clear hb
      go_wp2_with fail
      refine (rbad_at HE.out _ _ (HR.out.on HB0.out) hl HS.out).mono ?_
      rintro e w3 ⟨rfl, hb⟩
      replace HB0 := Lib.hid (below_then HB0.out hb)
      obtain ⟨p0, p1, p2, p3, p4, p5, p6, p7, p8⟩ := HP0.out.on hb
      clear hb
      generalize placeV L i = pl at *
      go_wp2_with fail
      refine bodyPost_ret (v := .agg #[.slice none 0 0, .int .i64 0, .int .i64 7, .int .i64 pl]) (by simp [results, Tryz.results145, go_sem, *]) rfl ?_
      exact rgives_box (r := .bad 7 i) (to := 0) (ownN_nil _ _) HB0.out rfl rfl HPL.out _ _ _ _
  | false =>
    have HQ1 := Lib.hid q1
    cases q2 : isB L i [45] with
    | true =>
      have HQ2 := Lib.hid q2
      cases q3 : isB L i [40] with
      | true => exact absurd (isB_one q2 q3) (by decide)
      | false =>
        have HQ3 := Lib.hid q3
        clear hx q1 q2 q3
        go_enter Tryz.func145, Tryz.ntmps145
        go_wp2_with fail
        refine (ris_at HQ1.out _ _ (HR.out.on HB0.out)).mono ?_
        rintro e w1 ⟨rfl, hb⟩
        replace HB0 := Lib.hid (below_then HB0.out hb)
        replace HP0 := Lib.hid (HP0.out.on hb)
        clear hb
        go_wp2_with fail
        refine (ris_at HQ2.out _ _ (HR.out.on HB0.out)).mono ?_
        rintro e w1 ⟨rfl, hb⟩
        replace HB0 := Lib.hid (below_then HB0.out hb)
        replace HP0 := Lib.hid (HP0.out.on hb)
        clear hb
        go_wp2_with fail
        refine (ris_at HQ3.out _ _ (HR.out.on HB0.out)).mono ?_
        rintro e w2 ⟨rfl, hb⟩
        replace HB0 := Lib.hid (below_then HB0.out hb)
        replace HP0 := Lib.hid (HP0.out.on hb)
        clear hb
        go_wp2_with fail
        refine (rbad_at HE.out _ _ (HR.out.on HB0.out) hl HS.out).mono ?_
        rintro e w3 ⟨rfl, hb⟩
        replace HB0 := Lib.hid (below_then HB0.out hb)
        obtain ⟨p0, p1, p2, p3, p4, p5, p6, p7, p8⟩ := HP0.out.on hb
        clear hb
        generalize placeV L i = pl at *
        go_wp2_with fail
        refine bodyPost_ret (v := .agg #[.slice none 0 0, .int .i64 0, .int .i64 7, .int .i64 pl]) (by simp [results, Tryz.results145, go_sem, *]) rfl ?_
        exact rgives_box (r := .bad 7 i) (to := 0) (ownN_nil _ _) HB0.out rfl rfl HPL.out _ _ _ _
    | false =>
      have HQ2 := Lib.hid q2
      have q3 : isB L i [40] = true := by rw [q1, q2] at hx; simpa using hx
      have HQ3 := Lib.hid q3
      clear hx q1 q2 q3
      go_enter Tryz.func145, Tryz.ntmps145
      go_wp2_with fail
      refine (ris_at HQ1.out _ _ (HR.out.on HB0.out)).mono ?_
      rintro e w1 ⟨rfl, hb⟩
      replace HB0 := Lib.hid (below_then HB0.out hb)
      replace HP0 := Lib.hid (HP0.out.on hb)
      clear hb
      go_wp2_with fail
      refine (ris_at HQ2.out _ _ (HR.out.on HB0.out)).mono ?_
      rintro e w1 ⟨rfl, hb⟩
      replace HB0 := Lib.hid (below_then HB0.out hb)
      replace HP0 := Lib.hid (HP0.out.on hb)
      clear hb
      go_wp2_with fail
      refine (ris_at HQ3.out _ _ (HR.out.on HB0.out)).mono ?_
      rintro e w2 ⟨rfl, hb⟩
      replace HB0 := Lib.hid (below_then HB0.out hb)
      replace HP0 := Lib.hid (HP0.out.on hb)
      clear hb
      go_wp2_with fail
      refine (rbad_at HE.out _ _ (HR.out.on HB0.out) hl HS.out).mono ?_
      rintro e w3 ⟨rfl, hb⟩
      replace HB0 := Lib.hid (below_then HB0.out hb)
      obtain ⟨p0, p1, p2, p3, p4, p5, p6, p7, p8⟩ := HP0.out.on hb
      clear hb
      generalize placeV L i = pl at *
      go_wp2_with fail
      refine bodyPost_ret (v := .agg #[.slice none 0 0, .int .i64 0, .int .i64 7, .int .i64 pl]) (by simp [results, Tryz.results145, go_sem, *]) rfl ?_
      exact rgives_box (r := .bad 7 i) (to := 0) (ownN_nil _ _) HB0.out rfl rfl HPL.out _ _ _ _
end Go.Proofs.YtpeohfgadnfnpaaGreatDoor
/-
  DERIVED. Layer 3: the document's prime (leadlineref03) at a number, at a name, at anything else.
-/
namespace Go.Proofs.YtpeohfgadnfnpaaGreatDoor
open Go.RowKit

theorem rgives_leaf {L : List Tok} {r : Res} {w W : World} {x : Nod} {to : Nat} (hr : r = .ok (.leaf x) to) (hb : Below w.heap.size w W) (z : Value) (hz : z = .string ⟨x.name.toArray⟩) (a b d e : Value) :
    RGives L r w (.returned (.agg #[.slice (some ⟨W.heap.size, 0, none⟩) 1 1, .int .i64 (to : Nat), .int .i64 0, .int .i64 0]))
      (((((W.setCell ⟨w.heap.size, 0, none⟩ a).setCell ⟨w.heap.size, 1, none⟩ b).setCell ⟨w.heap.size, 2, none⟩ d).setCell ⟨w.heap.size, 3, none⟩ e).alloc (.cells #[.int .i64 x.op, .int .i64 x.n, z, .int .i64 x.pl] 33)).drew := by
  subst hr hz
  have hb2 := below_set4R hb (Nat.le_refl _) a b d e
  have hz : ((((W.setCell ⟨w.heap.size, 0, none⟩ a).setCell ⟨w.heap.size, 1, none⟩ b).setCell ⟨w.heap.size, 2, none⟩ d).setCell ⟨w.heap.size, 3, none⟩ e).heap.size = W.heap.size := by simp
  generalize ((((W.setCell ⟨w.heap.size, 0, none⟩ a).setCell ⟨w.heap.size, 1, none⟩ b).setCell ⟨w.heap.size, 2, none⟩ d).setCell ⟨w.heap.size, 3, none⟩ e) = S at *
  have hn := (Below.refl S.heap.size S).alloc (Nat.le_refl _) (.cells #[.int .i64 x.op, .int .i64 x.n, .string ⟨x.name.toArray⟩, .int .i64 x.pl] 33)
  have ho : OwnN (S.alloc (.cells #[.int .i64 x.op, .int .i64 x.n, .string ⟨x.name.toArray⟩, .int .i64 x.pl] 33)) w.heap.size (.slice (some ⟨S.heap.size, 0, none⟩) 1 1) [x] :=
    ⟨rfl, .inr ⟨S.heap.size, 1, _, rfl, hb2.size, heap_alloc_new S _, Nat.le_refl _, by decide, rfl, rfl⟩⟩
  rw [hz] at ho
  exact ⟨_, _, _, rfl, ho.on (below_dr _), below_then (below_then hb2 hn) (below_dr _)⟩

set_option maxRecDepth 100000 in
set_option maxHeartbeats 8000000 in
theorem prime_leaf (L : List Tok) (i d : Nat) (v : Value) (w : World) (t : Tok) (h : ReadT w v L) (hl : L.length ≤ 10000) (hs : SmallT L) (ht : L[i]? = some t) (q1 : isB L i [33] = false) (q2 : isB L i [45] = false) (q3 : isB L i [40] = false) :
    Calls Tryz.prog 145 #[v, .int .i64 i, .int .i64 d] w (RGives L (if t.kind = 2 then .ok (.leaf ⟨1, t.n, [], t.pl⟩) (i + 1) else if t.kind = 1 ∧ nameB t.text = true then .ok (.leaf ⟨2, 0, t.text, t.pl⟩) (i + 1) else .bad 5 i) w) := by
  have hi := (List.getElem?_eq_some_iff.1 ht).1
  have hsm := hs t (List.mem_of_getElem? ht)
  have HR := Lib.hid h
  have HS := Lib.hid hs
  have HT := Lib.hid ht
  obtain ⟨A, c, rfl, hc, hr⟩ := h
  obtain ⟨b, rfl, hbg, x0, x1, x2, x3⟩ := hr i t ht
  have f1 : ¬ (L.length : Int) ≤ (i : Int) := by omega
  have f2 : (i : Int) < (L.length : Int) := by omega
  have HB0 := Lib.hid ((Below.refl w.heap.size w).alloc (Nat.le_refl _) (.cells #[.slice none 0 0, .int .i64 0, .int .i64 0, .int .i64 0] 160))
  have HP0 := Lib.hid (pq_new w (.slice none 0 0) (.int .i64 0) (.int .i64 0) (.int .i64 0) 160)
  have HE : Hid ((if L.length ≤ i then (6 : Int) else 5) = 5) := Lib.hid (if_neg (by omega))
  have HQ1 := Lib.hid q1
  have HQ2 := Lib.hid q2
  have HQ3 := Lib.hid q3
  clear hs q1 q2 q3 hr ht x0 x1 x2 x3
  generalize hR : (if t.kind = 2 then Res.ok (.leaf ⟨1, t.n, [], t.pl⟩) (i + 1) else if t.kind = 1 ∧ nameB t.text = true then .ok (.leaf ⟨2, 0, t.text, t.pl⟩) (i + 1) else .bad 5 i) = R
  have HRR := Lib.hid hR
  clear hR
  go_enter Tryz.func145, Tryz.ntmps145
  go_wp2_with fail
  refine (ris_at HQ1.out _ _ (HR.out.on HB0.out)).mono ?_
  rintro e w1 ⟨rfl, hb⟩
  replace HB0 := Lib.hid (below_then HB0.out hb)
  replace HP0 := Lib.hid (HP0.out.on hb)
  clear hb
  go_wp2_with fail
  refine (ris_at HQ2.out _ _ (HR.out.on HB0.out)).mono ?_
  rintro e w2 ⟨rfl, hb⟩
  replace HB0 := Lib.hid (below_then HB0.out hb)
  replace HP0 := Lib.hid (HP0.out.on hb)
  clear hb
  go_wp2_with fail
  refine (ris_at HQ3.out _ _ (HR.out.on HB0.out)).mono ?_
  rintro e W ⟨rfl, hb⟩
  replace HB0 := Lib.hid (below_then HB0.out hb)
  replace HP0 := Lib.hid (HP0.out.on hb)
  clear hb
  obtain ⟨A', c', hv', _, hr'⟩ := HR.out.on HB0.out
  obtain ⟨b', hA', hbg', x0, x1, x2, x3⟩ := hr' i t HT.out
  subst hA'
  obtain ⟨rfl, rfl⟩ : b' = b ∧ c' = c := by simp only [Value.slice.injEq, Option.some.injEq, Addr.mk.injEq] at hv'; exact ⟨hv'.1.1.symm, hv'.2.2.symm⟩
  clear hv' hr'
  cases e1 : (t.kind == 2) with
  | true =>
    have HX : Hid (R = .ok (.leaf ⟨1, t.n, [], t.pl⟩) (i + 1)) := Lib.hid (by rw [← HRR.out, if_pos (by simpa using e1)])
    obtain ⟨p0, p1, p2, p3, p4, p5, p6, p7, p8⟩ := HP0.out
    go_wp2_with fail
    go_region
    go_wp2_with fail
    refine bodyPost_ret (v := .agg #[.slice (some ⟨W.heap.size, 0, none⟩) 1 1, .int .i64 ((i + 1 : Nat) : Int), .int .i64 0, .int .i64 0]) (by simp [results, Tryz.results145, go_sem, *]) rfl ?_
    exact rgives_leaf (x := ⟨1, t.n, [], t.pl⟩) HX.out HB0.out _ rfl _ _ _ _
  | false =>
    cases e2 : (t.kind == 1) with
    | false =>
      have HX : Hid (R = .bad 5 i) := Lib.hid (by rw [← HRR.out]; simp at e1 e2; simp [e1, e2])
      have HPL : Hid (placeV L i = plOf L (.bad 5 i)) := Lib.hid rfl
      go_wp2_with fail
      refine (rbad_at HE.out _ _ (HR.out.on HB0.out) hl HS.out).mono ?_
      rintro e w3 ⟨rfl, hb⟩
      replace HB0 := Lib.hid (below_then HB0.out hb)
      obtain ⟨p0, p1, p2, p3, p4, p5, p6, p7, p8⟩ := HP0.out.on hb
      clear hb
      generalize placeV L i = pl at *
      go_wp2_with fail
      refine bodyPost_ret (v := .agg #[.slice none 0 0, .int .i64 0, .int .i64 5, .int .i64 pl]) (by simp [results, Tryz.results145, go_sem, *]) rfl ?_
      rw [HX.out]
      exact rgives_box (r := .bad 5 i) (to := 0) (ownN_nil _ _) HB0.out rfl rfl HPL.out _ _ _ _
    | true =>
      cases e3 : nameB t.text with
      | false =>
        have HX : Hid (R = .bad 5 i) := Lib.hid (by rw [← HRR.out]; simp at e1; simp [e1, e3])
        have HPL : Hid (placeV L i = plOf L (.bad 5 i)) := Lib.hid rfl
        have H3 := Lib.hid e3
        clear e3
        go_wp2_with fail
        refine (rname_any ⟨t.text.toArray⟩ _ (by show t.text.toArray.size ≤ _; simpa using hsm.2)).mono ?_
        rw [show (ByteArray.mk t.text.toArray).data.toList = t.text from by simp, H3.out]
        rintro e w3 ⟨rfl, hb⟩
        replace HB0 := Lib.hid (below_then HB0.out hb)
        replace HP0 := Lib.hid (HP0.out.on hb)
        clear hb x0 x1 x2 x3
        go_wp2_with fail
        refine (rbad_at HE.out _ _ (HR.out.on HB0.out) hl HS.out).mono ?_
        rintro e w4 ⟨rfl, hb⟩
        replace HB0 := Lib.hid (below_then HB0.out hb)
        obtain ⟨p0, p1, p2, p3, p4, p5, p6, p7, p8⟩ := HP0.out.on hb
        clear hb
        generalize placeV L i = pl at *
        go_wp2_with fail
        refine bodyPost_ret (v := .agg #[.slice none 0 0, .int .i64 0, .int .i64 5, .int .i64 pl]) (by simp [results, Tryz.results145, go_sem, *]) rfl ?_
        rw [HX.out]
        exact rgives_box (r := .bad 5 i) (to := 0) (ownN_nil _ _) HB0.out rfl rfl HPL.out _ _ _ _
      | true =>
        have HX : Hid (R = .ok (.leaf ⟨2, 0, t.text, t.pl⟩) (i + 1)) := Lib.hid (by rw [← HRR.out]; simp at e1 e2; simp [e2, e3])
        have H3 := Lib.hid e3
        clear e3
        go_wp2_with fail
        refine (rname_any ⟨t.text.toArray⟩ _ (by show t.text.toArray.size ≤ _; simpa using hsm.2)).mono ?_
        rw [show (ByteArray.mk t.text.toArray).data.toList = t.text from by simp, H3.out]
        rintro e w3 ⟨rfl, hb⟩
        replace HB0 := Lib.hid (below_then HB0.out hb)
        obtain ⟨p0, p1, p2, p3, p4, p5, p6, p7, p8⟩ := HP0.out.on hb
        have y0 := (hb.cell (p := ⟨b', i * 4, none⟩) hbg').trans x0
        have y1 := (hb.cell (p := ⟨b', i * 4 + 1, none⟩) hbg').trans x1
        have y2 := (hb.cell (p := ⟨b', i * 4 + 2, none⟩) hbg').trans x2
        have y3 := (hb.cell (p := ⟨b', i * 4 + 3, none⟩) hbg').trans x3
        clear hb x0 x1 x2 x3
        go_wp2_with fail
        go_region
        go_wp2_with fail
        refine bodyPost_ret (v := .agg #[.slice (some ⟨w3.heap.size, 0, none⟩) 1 1, .int .i64 ((i + 1 : Nat) : Int), .int .i64 0, .int .i64 0]) (by simp [results, Tryz.results145, go_sem, *]) rfl ?_
        exact rgives_leaf (x := ⟨2, 0, t.text, t.pl⟩) HX.out HB0.out _ rfl _ _ _ _
end Go.Proofs.YtpeohfgadnfnpaaGreatDoor
