/-
  DERIVED. Layer 3: the document's prime (leadlineref03): where nothing stands, where it is too deep, at a number, at a name, at anything else.
-/
import Derived.Test.YtcmbcbdijmknnaaDoorRefRes
import Derived.Test.YtcmbcbdijmknnaaDoorRefKept
namespace Go.Proofs.YtcmbcbdijmknnaaDoor
open Go.RowKit

theorem rgives_box {L : List Tok} {r : Res} {w W : World} {A : Option Addr} {n c : Nat} (ho : OwnN W (w.heap.size + 1) (.slice A n c) (nodesOf r)) (hb : Below w.heap.size w W) {to : Nat} {er pl : Int} (h1 : to = toOf r) (h2 : er = errOf r) (h3 : pl = plOf L r) (a b d e : Value) :
    RGives L r w (.returned (.agg #[.slice A n c, .int .i64 (to : Nat), .int .i64 er, .int .i64 pl])) ((((W.setCell ⟨w.heap.size, 0, none⟩ a).setCell ⟨w.heap.size, 1, none⟩ b).setCell ⟨w.heap.size, 2, none⟩ d).setCell ⟨w.heap.size, 3, none⟩ e) := by
  subst h1 h2 h3
  exact ⟨A, n, c, rfl, (ho.away (g := w.heap.size) (fun q hq => by have := (ownN_block ho q hq).1; omega) ((((Keeps.refl _ _).set).set).set).set).base (by omega), below_set4R hb (Nat.le_refl _) a b d e⟩
theorem rbad_at {L : List Tok} {i : Nat} {er ee : Int} (he : (if L.length ≤ i then 6 else er) = ee) (v : Value) (w : World) (h : ReadT w v L) (hl : L.length ≤ 10000) (hs : SmallT L) : Calls Tryd.prog 66 #[v, .int .i64 i, .int .i64 er] w (SaysBad ee (placeV L i) w) := by
  subst he; exact rbad_any v L i er w h hl hs
theorem ris_at {L : List Tok} {i : Nat} {s : List UInt8} {q : Bool} (hq : isB L i s = q) (v : Value) (w : World) (h : ReadT w v L) : Calls Tryd.prog 52 #[v, .int .i64 i, .string ⟨s.toArray⟩] w (TellsB q w) := by
  have := ris_any v L i ⟨s.toArray⟩ w h
  rwa [show (ByteArray.mk s.toArray).data.toList = s from by simp, hq] at this

set_option maxRecDepth 100000 in
set_option maxHeartbeats 4000000 in
theorem prime_out (L : List Tok) (i d : Nat) (v : Value) (w : World) (h : ReadT w v L) (hl : L.length ≤ 10000) (hs : SmallT L) (hi : L.length ≤ i) : Calls Tryd.prog 50 #[v, .int .i64 i, .int .i64 d] w (RGives L (.bad 6 i) w) := by
  have HR := Lib.hid h
  have HS := Lib.hid hs
  obtain ⟨A, c, rfl, hc, _⟩ := h
  have f1 : (L.length : Int) ≤ (i : Int) := by omega
  have HB0 := Lib.hid ((Below.refl w.heap.size w).alloc (Nat.le_refl _) (.cells #[.slice none 0 0, .int .i64 0, .int .i64 0, .int .i64 0] 53))
  have HP0 := Lib.hid (pq_new w (.slice none 0 0) (.int .i64 0) (.int .i64 0) (.int .i64 0) 53)
  have HE : Hid ((if L.length ≤ i then (6 : Int) else 6) = 6) := Lib.hid (by split <;> rfl)
  clear hs
  go_enter Tryd.func50, Tryd.ntmps50
  go_wp2_with fail
  refine (rbad_at HE.out _ _ (HR.out.on HB0.out) hl HS.out).mono ?_
  rintro e w1 ⟨rfl, hb⟩
  have HB1 := Lib.hid (below_then HB0.out hb)
  obtain ⟨p0, p1, p2, p3, p4, p5, p6, p7, p8⟩ := HP0.out.on hb
  clear hb
  have HPL : Hid (placeV L i = plOf L (.bad 6 i)) := Lib.hid rfl
  generalize placeV L i = pl at *
  go_wp2_with fail
  refine bodyPost_ret (v := .agg #[.slice none 0 0, .int .i64 0, .int .i64 6, .int .i64 pl]) (by simp [results, Tryd.results50, go_sem, *]) rfl ?_
  exact rgives_box (r := .bad 6 i) (to := 0) (ownN_nil _ _) HB1.out rfl rfl HPL.out _ _ _ _

set_option maxRecDepth 100000 in
set_option maxHeartbeats 8000000 in
theorem prime_deep (L : List Tok) (i : Nat) (v : Value) (w : World) (h : ReadT w v L) (hl : L.length ≤ 10000) (hs : SmallT L) (hi : i < L.length) (hx : isB L i [33] = true ∨ isB L i [45] = true ∨ isB L i [40] = true) :
    Calls Tryd.prog 50 #[v, .int .i64 i, .int .i64 12] w (RGives L (.bad 7 i) w) := by
  have HR := Lib.hid h
  have HS := Lib.hid hs
  obtain ⟨A, c, rfl, hc, _⟩ := h
  have f1 : ¬ (L.length : Int) ≤ (i : Int) := by omega
  have HB0 := Lib.hid ((Below.refl w.heap.size w).alloc (Nat.le_refl _) (.cells #[.slice none 0 0, .int .i64 0, .int .i64 0, .int .i64 0] 53))
  have HP0 := Lib.hid (pq_new w (.slice none 0 0) (.int .i64 0) (.int .i64 0) (.int .i64 0) 53)
  have HE : Hid ((if L.length ≤ i then (6 : Int) else 7) = 7) := Lib.hid (if_neg (by omega))
  have HPL : Hid (placeV L i = plOf L (.bad 7 i)) := Lib.hid rfl
  clear hs
  cases q1 : isB L i [33] with
  | true =>
    have HQ1 := Lib.hid q1
    cases q3 : isB L i [40] with
    | true => exact absurd (isB_one q1 q3) (by decide)
    | false =>
      have HQ3 := Lib.hid q3
      clear hx q1 q3
      go_enter Tryd.func50, Tryd.ntmps50
      go_wp2_with fail
      refine (ris_at HQ1.out _ _ (HR.out.on HB0.out)).mono ?_
      rintro e w1 ⟨rfl, hb⟩
      replace HB0 := Lib.hid (below_then HB0.out hb)
      replace HP0 := Lib.hid (HP0.out.on hb)
      clear hb
      go_wp2_with fail
      refine (ris_at HQ3.out _ _ (HR.out.on HB0.out)).mono ?_
      rintro e w2 ⟨rfl, hb⟩
      replace HB0 := Lib.hid (below_then HB0.out hb)
      replace HP0 := Lib.hid (HP0.out.on hb)
      clear hb
      go_wp2_with fail
      refine (rbad_at HE.out _ _ (HR.out.on HB0.out) hl HS.out).mono ?_
      rintro e w3 ⟨rfl, hb⟩
      replace HB0 := Lib.hid (below_then HB0.out hb)
      obtain ⟨p0, p1, p2, p3, p4, p5, p6, p7, p8⟩ := HP0.out.on hb
      clear hb
      generalize placeV L i = pl at *
      go_wp2_with fail
      refine bodyPost_ret (v := .agg #[.slice none 0 0, .int .i64 0, .int .i64 7, .int .i64 pl]) (by simp [results, Tryd.results50, go_sem, *]) rfl ?_
      exact rgives_box (r := .bad 7 i) (to := 0) (ownN_nil _ _) HB0.out rfl rfl HPL.out _ _ _ _
  | false =>
    have HQ1 := Lib.hid q1
    cases q2 : isB L i [45] with
    | true =>
      have HQ2 := Lib.hid q2
      cases q3 : isB L i [40] with
      | true => exact absurd (isB_one q2 q3) (by decide)
      | false =>
        have HQ3 := Lib.hid q3
        clear hx q1 q2 q3
        go_enter Tryd.func50, Tryd.ntmps50
        go_wp2_with fail
        refine (ris_at HQ1.out _ _ (HR.out.on HB0.out)).mono ?_
        rintro e w1 ⟨rfl, hb⟩
        replace HB0 := Lib.hid (below_then HB0.out hb)
        replace HP0 := Lib.hid (HP0.out.on hb)
        clear hb
        go_wp2_with fail
        refine (ris_at HQ2.out _ _ (HR.out.on HB0.out)).mono ?_
        rintro e w1 ⟨rfl, hb⟩
        replace HB0 := Lib.hid (below_then HB0.out hb)
        replace HP0 := Lib.hid (HP0.out.on hb)
        clear hb
        go_wp2_with fail
        refine (ris_at HQ3.out _ _ (HR.out.on HB0.out)).mono ?_
        rintro e w2 ⟨rfl, hb⟩
        replace HB0 := Lib.hid (below_then HB0.out hb)
        replace HP0 := Lib.hid (HP0.out.on hb)
        clear hb
        go_wp2_with fail
        refine (rbad_at HE.out _ _ (HR.out.on HB0.out) hl HS.out).mono ?_
        rintro e w3 ⟨rfl, hb⟩
        replace HB0 := Lib.hid (below_then HB0.out hb)
        obtain ⟨p0, p1, p2, p3, p4, p5, p6, p7, p8⟩ := HP0.out.on hb
        clear hb
        generalize placeV L i = pl at *
        go_wp2_with fail
        refine bodyPost_ret (v := .agg #[.slice none 0 0, .int .i64 0, .int .i64 7, .int .i64 pl]) (by simp [results, Tryd.results50, go_sem, *]) rfl ?_
        exact rgives_box (r := .bad 7 i) (to := 0) (ownN_nil _ _) HB0.out rfl rfl HPL.out _ _ _ _
    | false =>
      have HQ2 := Lib.hid q2
      have q3 : isB L i [40] = true := by rw [q1, q2] at hx; simpa using hx
      have HQ3 := Lib.hid q3
      clear hx q1 q2 q3
      go_enter Tryd.func50, Tryd.ntmps50
      go_wp2_with fail
      refine (ris_at HQ1.out _ _ (HR.out.on HB0.out)).mono ?_
      rintro e w1 ⟨rfl, hb⟩
      replace HB0 := Lib.hid (below_then HB0.out hb)
      replace HP0 := Lib.hid (HP0.out.on hb)
      clear hb
      go_wp2_with fail
      refine (ris_at HQ2.out _ _ (HR.out.on HB0.out)).mono ?_
      rintro e w1 ⟨rfl, hb⟩
      replace HB0 := Lib.hid (below_then HB0.out hb)
      replace HP0 := Lib.hid (HP0.out.on hb)
      clear hb
      go_wp2_with fail
      refine (ris_at HQ3.out _ _ (HR.out.on HB0.out)).mono ?_
      rintro e w2 ⟨rfl, hb⟩
      replace HB0 := Lib.hid (below_then HB0.out hb)
      replace HP0 := Lib.hid (HP0.out.on hb)
      clear hb
      go_wp2_with fail
      refine (rbad_at HE.out _ _ (HR.out.on HB0.out) hl HS.out).mono ?_
      rintro e w3 ⟨rfl, hb⟩
      replace HB0 := Lib.hid (below_then HB0.out hb)
      obtain ⟨p0, p1, p2, p3, p4, p5, p6, p7, p8⟩ := HP0.out.on hb
      clear hb
      generalize placeV L i = pl at *
      go_wp2_with fail
      refine bodyPost_ret (v := .agg #[.slice none 0 0, .int .i64 0, .int .i64 7, .int .i64 pl]) (by simp [results, Tryd.results50, go_sem, *]) rfl ?_
      exact rgives_box (r := .bad 7 i) (to := 0) (ownN_nil _ _) HB0.out rfl rfl HPL.out _ _ _ _
end Go.Proofs.YtcmbcbdijmknnaaDoor
