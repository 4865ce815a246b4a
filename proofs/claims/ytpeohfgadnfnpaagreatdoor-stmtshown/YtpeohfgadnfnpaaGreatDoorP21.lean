/-
  DERIVED. Texts of the walk, packed: StGood, RefRight.
-/
import Derived.Test.YtpeohfgadnfnpaaGreatDoorP20
import Derived.Test.YtpeohfgadnfnpaaGreatDoorP10
/-
  DERIVED. Layer 4: what is read of a text's tokens is right; nothing of the program in it.
-/
namespace Go.Proofs.YtpeohfgadnfnpaaGreatDoor
open Go

/-- What fitS asks, one by one. -/
theorem fit_of {x : Stm} {k : Nat} (hk : x.kind = k) (h1 : 1 ≤ k) (h2 : k ≤ 14) (hp : 0 ≤ x.pl ∧ x.pl ≤ 4000)
    (hr : (if k = 1 ∨ k = 2 ∨ k = 4 then nameB x.reg else x.reg.isEmpty) = true)
    (hn : (if k = 2 ∨ k = 3 ∨ k = 4 ∨ k = 5 ∨ k = 6 ∨ k = 9 ∨ k = 10 then nameB x.name else x.name.isEmpty) = true)
    (he : (if k = 1 ∨ k = 3 ∨ k = 4 ∨ k = 11 ∨ k = 14 then rightL x.e else x.e.isEmpty) = true)
    (hf : (if k = 4 then rightL x.f else x.f.isEmpty) = true)
    (ht : (if k = 12 then decide (1 ≤ x.n) && decide (x.n ≤ 8) else decide (x.n = 0)) = true) : fitS x = true := by
  obtain ⟨t1, t2, t3, t4, t5⟩ := has_table ⟨k, by omega⟩ h1
  simp only at t1 t2 t3 t4 t5
  unfold fitS
  rw [hk, t1, t2, t3, t4, t5]
  simp only [decide_eq_true_eq]
  rw [hr, hn, he, hf, ht]
  simp; omega
theorem fit_inv {x : Stm} {k : Nat} (hk : x.kind = k) (h : fitS x = true) : 1 ≤ k ∧ k ≤ 14 ∧ (0 ≤ x.pl ∧ x.pl ≤ 4000) ∧
    (if k = 1 ∨ k = 2 ∨ k = 4 then nameB x.reg else x.reg.isEmpty) = true ∧
    (if k = 2 ∨ k = 3 ∨ k = 4 ∨ k = 5 ∨ k = 6 ∨ k = 9 ∨ k = 10 then nameB x.name else x.name.isEmpty) = true ∧
    (if k = 1 ∨ k = 3 ∨ k = 4 ∨ k = 11 ∨ k = 14 then rightL x.e else x.e.isEmpty) = true ∧
    (if k = 4 then rightL x.f else x.f.isEmpty) = true ∧
    (if k = 12 then decide (1 ≤ x.n) && decide (x.n ≤ 8) else decide (x.n = 0)) = true := by
  unfold fitS at h
  rw [hk] at h
  simp only [Bool.and_eq_true, decide_eq_true_eq] at h
  obtain ⟨⟨⟨⟨⟨⟨⟨⟨h1, h2⟩, h3⟩, h4⟩, h5⟩, h6⟩, h7⟩, h8⟩, h9⟩ := h
  obtain ⟨t1, t2, t3, t4, t5⟩ := has_table ⟨k, by omega⟩ (by show 1 ≤ k; omega)
  simp only at t1 t2 t3 t4 t5
  rw [t1] at h5; rw [t2] at h6; rw [t3] at h7; rw [t4] at h8; rw [t5] at h9
  simp only [decide_eq_true_eq] at h5 h6 h7 h8 h9
  refine ⟨by omega, by omega, ⟨h3, h4⟩, h5, h6, h7, h8, ?_⟩
  split at h9
  · rename_i hc; rw [if_pos hc]; simpa using h9
  · rename_i hc; rw [if_neg hc]; simpa using h9
theorem fit_kind {x : Stm} (h : fitS x = true) : ∃ k : Nat, x.kind = k ∧ 1 ≤ k ∧ k ≤ 14 := by
  unfold fitS at h
  simp only [Bool.and_eq_true, decide_eq_true_eq] at h
  exact ⟨x.kind.toNat, by omega, by omega, by omega⟩
theorem plain_fit {n : Nat} {L : List Tok} {k i j : Nat} {pl : Int} {s : Stm} (hn : n ≤ 4000) (hL : TF n L) (h1 : 1 ≤ k) (h2 : k ≤ 14) (hp : 0 ≤ pl ∧ pl ≤ 4000) (h : plainP L k pl i = .ok s j) : fitS s = true ∧ s.kind = k ∧ s.body = 0 ∧ s.els = 0 := by
  unfold plainP at h
  split at h
  · obtain ⟨r, j1, e1, h⟩ := bind_ok_inv h
    obtain ⟨_, j2, e2, h⟩ := bind_ok_inv h
    obtain ⟨e, j3, e3, h⟩ := bind_ok_inv h
    simp at h; obtain ⟨rfl, _⟩ := h
    subst k
    exact ⟨fit_of (k := 1) rfl h1 h2 hp (name_ok e1) rfl (expr_ok hn hL e3) rfl rfl, rfl, rfl, rfl⟩
  split at h
  · obtain ⟨r, j1, e1, h⟩ := bind_ok_inv h
    obtain ⟨_, j2, e2, h⟩ := bind_ok_inv h
    obtain ⟨e, j3, e3, h⟩ := bind_ok_inv h
    simp at h; obtain ⟨rfl, _⟩ := h
    subst k
    exact ⟨fit_of (k := 2) rfl h1 h2 hp (name_ok e1) (name_ok e3) rfl rfl rfl, rfl, rfl, rfl⟩
  split at h
  · obtain ⟨r, j1, e1, h⟩ := bind_ok_inv h
    obtain ⟨_, j2, e2, h⟩ := bind_ok_inv h
    obtain ⟨e, j3, e3, h⟩ := bind_ok_inv h
    simp at h; obtain ⟨rfl, _⟩ := h
    subst k
    exact ⟨fit_of (k := 3) rfl h1 h2 hp rfl (name_ok e1) (expr_ok hn hL e3) rfl rfl, rfl, rfl, rfl⟩
  split at h
  · obtain ⟨r, j1, e1, h⟩ := bind_ok_inv h
    obtain ⟨_, j2, e2, h⟩ := bind_ok_inv h
    obtain ⟨m, j3, e3, h⟩ := bind_ok_inv h
    obtain ⟨_, j4, e4, h⟩ := bind_ok_inv h
    obtain ⟨e, j5, e5, h⟩ := bind_ok_inv h
    obtain ⟨_, j6, e6, h⟩ := bind_ok_inv h
    obtain ⟨f, j7, e7, h⟩ := bind_ok_inv h
    simp at h; obtain ⟨rfl, _⟩ := h
    subst k
    exact ⟨fit_of (k := 4) rfl h1 h2 hp (name_ok e1) (name_ok e3) (expr_ok hn hL e5) (expr_ok hn hL e7) rfl, rfl, rfl, rfl⟩
  split at h
  · rename_i hk
    obtain ⟨m, j1, e1, h⟩ := bind_ok_inv h
    simp at h; obtain ⟨rfl, _⟩ := h
    have hm := name_ok e1
    rcases hk with rfl | rfl | rfl | rfl
    · exact ⟨fit_of (k := 5) rfl h1 h2 hp rfl hm rfl rfl rfl, rfl, rfl, rfl⟩
    · exact ⟨fit_of (k := 6) rfl h1 h2 hp rfl hm rfl rfl rfl, rfl, rfl, rfl⟩
    · exact ⟨fit_of (k := 9) rfl h1 h2 hp rfl hm rfl rfl rfl, rfl, rfl, rfl⟩
    · exact ⟨fit_of (k := 10) rfl h1 h2 hp rfl hm rfl rfl rfl, rfl, rfl, rfl⟩
  split at h
  · rename_i hk
    obtain ⟨e, j1, e1, h⟩ := bind_ok_inv h
    simp at h; obtain ⟨rfl, _⟩ := h
    have hm := expr_ok hn hL e1
    rcases hk with rfl | rfl
    · exact ⟨fit_of (k := 11) rfl h1 h2 hp rfl rfl hm rfl rfl, rfl, rfl, rfl⟩
    · exact ⟨fit_of (k := 14) rfl h1 h2 hp rfl rfl hm rfl rfl, rfl, rfl, rfl⟩
  split at h
  · obtain ⟨m, j1, e1, h⟩ := bind_ok_inv h
    simp at h; obtain ⟨rfl, _⟩ := h
    have hm := times_ok e1
    subst k
    exact ⟨fit_of (k := 12) rfl h1 h2 hp rfl rfl rfl rfl (by simp; exact hm), rfl, rfl, rfl⟩
  · rename_i c1 c2 c3 c4 c5 c6 c7
    simp at h; obtain ⟨rfl, _⟩ := h
    refine ⟨fit_of (k := k) rfl h1 h2 hp ?_ ?_ ?_ ?_ ?_, rfl, rfl, rfl⟩
    · rw [if_neg (by omega)]; rfl
    · rw [if_neg (by omega)]; rfl
    · rw [if_neg (by omega)]; rfl
    · rw [if_neg (by omega)]; rfl
    · rw [if_neg (by omega)]; rfl

theorem good_nil : GoodB .nil := ⟨trivial, rfl⟩
theorem good_cons {s : Stm} {b e r : Bk} : GoodB (.cons s b e r) ↔ s.body = b.count ∧ s.els = e.count ∧ (0 < b.count → blkK s.kind) ∧ (0 < e.count → s.kind = 11) ∧ fitS s = true ∧ GoodB b ∧ GoodB e ∧ GoodB r := by
  unfold GoodB
  simp only [Bk.fit, Bk.flat, List.all_cons, List.all_append, Bool.and_eq_true]
  constructor
  · rintro ⟨⟨h1, h2, h3, h4, h5, h6, h7⟩, h8, h9, h10, h11⟩
    exact ⟨h1, h2, h3, h4, h8, ⟨h5, h9⟩, ⟨h6, h10⟩, ⟨h7, h11⟩⟩
  · rintro ⟨h1, h2, h3, h4, h8, ⟨h5, h9⟩, ⟨h6, h10⟩, ⟨h7, h11⟩⟩
    exact ⟨⟨h1, h2, h3, h4, h5, h6, h7⟩, h8, h9, h10, h11⟩
/-- What is right of a row that is read, in a block so deep, in so many loops. -/
def RowOK (row : Rows4) : Prop := ∀ i d l b j, d ≤ 12 → row i d l = some (.ok b j) → GoodB b ∧ b.brk l = true ∧ d + b.deep ≤ 12
theorem must_brace {L : List Tok} {i d : Nat} (h : ¬ (12 < d ∧ isB L i [123] = true)) {u : Unit} {j : Nat} (h2 : mustP L i [123] = .ok u j) : d ≤ 12 := by
  unfold mustP at h2
  split at h2
  · rename_i hc
    by_cases hd : 12 < d
    · exact absurd ⟨hd, hc⟩ h
    · omega
  · unfold badR at h2; cases h2
theorem block_ok {L : List Tok} {row : Rows4} (hr : RowOK row) {i d l j : Nat} {b : Bk} (h : blockW row L i d l = some (.ok b j)) : GoodB b ∧ b.brk l = true ∧ d + b.deep ≤ 12 := by
  unfold blockW at h
  split at h
  · unfold badR at h; simp at h
  · rename_i hc
    rcases RS.obind_some h with ⟨_, j1, h1, h2⟩ | ⟨e, p, h1, h2⟩
    · rcases RS.obind_some h2 with ⟨b1, j2, h3, h4⟩ | ⟨e, p, h3, h4⟩
      · rcases RS.obind_some h4 with ⟨_, j3, h5, h6⟩ | ⟨e, p, h5, h6⟩
        · simp at h6; obtain ⟨rfl, _⟩ := h6
          exact hr _ _ _ _ _ (must_brace hc (Option.some.inj h1)) h3
        · cases h6
      · cases h4
    · cases h2
theorem one_ok {n : Nat} {L : List Tok} {row : Rows4} (hn : n ≤ 4000) (hL : TF n L) (hr : RowOK row) {i d l j : Nat} {o : One} (hd : d ≤ 12) (h : oneW row L i d l = some (.ok o j)) :
    o.s.body = o.b.count ∧ o.s.els = o.e.count ∧ (0 < o.b.count → blkK o.s.kind) ∧ (0 < o.e.count → o.s.kind = 11) ∧ fitS o.s = true ∧ GoodB o.b ∧ GoodB o.e ∧
    (¬ o.s.kind = 13 ∨ 0 < l) ∧ o.b.brk (if o.s.kind = 12 then l + 1 else l) = true ∧ o.e.brk (if o.s.kind = 12 then l + 1 else l) = true ∧ (blkK o.s.kind → d + (o.b.deep + 1) ≤ 12 ∧ d + (o.e.deep + 1) ≤ 12) := by
  unfold oneW at h
  split at h
  · unfold badR at h; simp at h
  · rename_i hb
    have hkr := kind_range L i
    have hpl := place_le (n := n) (fun t ht => (hL t ht).1) (i : Int)
    rcases RS.obind_some h with ⟨s, j1, h1, h2⟩ | ⟨e, p, h1, h2⟩
    · obtain ⟨f1, f2, f3, f4⟩ := plain_fit hn hL hkr.1 hkr.2 ⟨hpl.1, by omega⟩ (Option.some.inj h1)
      have hbr : ¬ s.kind = 13 ∨ 0 < l := by rw [f2]; omega
      split at h2
      · rename_i hk
        rcases RS.obind_some h2 with ⟨_, j2, h3, h4⟩ | ⟨e, p, h3, h4⟩
        · simp at h4; obtain ⟨rfl, _⟩ := h4
          exact ⟨f3, f4, fun h => absurd h (by simp [Bk.count]), fun h => absurd h (by simp [Bk.count]), f1, good_nil, good_nil, hbr, rfl, rfl, fun h => absurd h (by show ¬ blkK s.kind; rw [f2]; exact hk)⟩
        · cases h4
      · rename_i hk
        have hk' : blkK s.kind := by rw [f2]; exact Decidable.not_not.1 hk
        rcases RS.obind_some h2 with ⟨b, j2, h3, h4⟩ | ⟨e, p, h3, h4⟩
        · obtain ⟨g1, g2, g3⟩ := block_ok hr h3
          rcases RS.obind_some h4 with ⟨e, j3, h5, h6⟩ | ⟨e, p, h5, h6⟩
          · simp at h6; obtain ⟨rfl, _⟩ := h6
            have hin : inL (kindAt L i) l = if s.kind = 12 then l + 1 else l := by
              unfold inL; rw [f2]
              by_cases hc : kindAt L i = 12
              · rw [if_pos hc, if_pos (by omega)]
              · rw [if_neg hc, if_neg (by omega)]
            rw [hin] at g2 h5
            have he : GoodB e ∧ e.brk (if s.kind = 12 then l + 1 else l) = true ∧ d + 1 + e.deep ≤ 12 ∧ (0 < e.count → s.kind = 11) := by
              unfold elseW4 at h5
              split at h5
              · rename_i hc
                obtain ⟨q1, q2, q3⟩ := block_ok hr h5
                exact ⟨q1, q2, q3, fun _ => by rw [f2, hc.1]; rfl⟩
              · simp at h5; obtain ⟨rfl, _⟩ := h5
                exact ⟨good_nil, rfl, by simp only [Bk.deep]; omega, fun h => absurd h (by simp [Bk.count])⟩
            obtain ⟨q1, q2, q3, q4⟩ := he
            exact ⟨rfl, rfl, fun _ => hk', q4, f1, g1, q1, hbr, g2, q2, fun _ => ⟨by show d + (b.deep + 1) ≤ 12; omega, by show d + (e.deep + 1) ≤ 12; omega⟩⟩
          · cases h6
        · cases h4
    · cases h2
theorem row_ok {n : Nat} {L : List Tok} (hn : n ≤ 4000) (hL : TF n L) : ∀ f, RowOK (rowF L f) := by
  intro f
  induction f with
  | zero => intro i d l b j _ h; simp [rowF] at h
  | succ f ih =>
    intro i d l b j hd h
    rw [rowF_succ] at h
    split at h
    · simp at h; obtain ⟨rfl, _⟩ := h
      exact ⟨good_nil, rfl, by simp only [Bk.deep]; omega⟩
    · rcases RS.obind_some h with ⟨o, j1, h1, h2⟩ | ⟨e, p, h1, h2⟩
      · rcases RS.obind_some h2 with ⟨r, j2, h3, h4⟩ | ⟨e, p, h3, h4⟩
        · simp at h4; obtain ⟨rfl, _⟩ := h4
          obtain ⟨g1, g2, g3⟩ := ih _ _ _ _ _ hd h3
          obtain ⟨q1, q2, q3, q4, q5, q6, q7, q8, q9, q10, q11⟩ := one_ok hn hL ih hd h1
          refine ⟨good_cons.2 ⟨q1, q2, q3, q4, q5, q6, q7, g1⟩, ?_, ?_⟩
          · simp only [Bk.brk, q9, q10, g2, Bool.and_true]
            simpa using q8
          · simp only [Bk.deep]
            split
            · rename_i hb; have := q11 hb; omega
            · omega
        · cases h4
      · cases h2
/-- What is read of a text's tokens. -/
theorem stmt_right {n : Nat} {L : List Tok} (hn : n ≤ 4000) (hL : TF n L) (i : Nat) : (∃ e p, e ≠ 0 ∧ stmtV L i = ⟨[], 0, e, p⟩) ∨ (∃ (b : Bk) (to : Nat), blockR L i 0 0 = .ok b to ∧ stmtV L i = ⟨b.flat, to, 0, 0⟩ ∧ b.fit ∧ rightS b.flat = true ∧ i + 2 ≤ to ∧ to ≤ L.length) := by
  have e0 : stmtV L i = stmtR L i (blockR L i 0 0) := by unfold stmtV; rw [if_neg (by omega), Int.toNat_natCast]
  have hs := blockR_some L i 0 0
  have ha := block_ahead (row_ahead L _) hs
  rw [e0]
  cases hb : blockR L i 0 0 with
  | bad e p => rw [hb] at ha; exact .inl ⟨e, p, ha, rfl⟩
  | ok b to =>
    rw [hb] at hs ha
    obtain ⟨g1, g2, g3⟩ := block_ok (row_ok hn hL _) hs
    by_cases hc : 40 < b.count
    · exact .inl ⟨2, placeV L i, by decide, by simp [stmtR, hc]⟩
    · refine .inr ⟨b, to, rfl, by simp [stmtR, hc], g1.1, rightS_good g1 (by omega) g2 (by omega), ?_, ha.2⟩
      unfold blockW at hs
      split at hs
      · unfold badR at hs; simp at hs
      · rcases RS.obind_some hs with ⟨_, j1, h1, h2⟩ | ⟨e, p, h1, h2⟩
        · have a1 := must_ahead L i [123]
          simp at h1; rw [h1] at a1
          rcases RS.obind_some h2 with ⟨b1, j2, h3, h4⟩ | ⟨e, p, h3, h4⟩
          · have a2 := row_ahead L _ _ _ _ _ a1.2 h3
            rcases RS.obind_some h4 with ⟨_, j3, h5, h6⟩ | ⟨e, p, h5, h6⟩
            · have a3 := must_ahead L j2 [125]
              simp at h5; rw [h5] at a3
              simp at h6
              have b1 := a1.1; have b2 := a2.1; have b3 := a3.1
              omega
            · cases h6
          · cases h4
        · cases h2
end Go.Proofs.YtpeohfgadnfnpaaGreatDoor
/-
  DERIVED. Layer 3: contract of the document's Right (leadlineref03).
-/
namespace Go.Proofs.YtpeohfgadnfnpaaGreatDoor
open Go.RowKit

theorem right_long {L : List Nod} (h : 40 < L.length) : rightL L = false := by
  unfold rightL; cases wholeT L with
  | none => rfl
  | some x => simp; omega
theorem right_not {L : List Nod} (h : endV L 0 ≠ L.length) : rightL L = false := by
  unfold rightL
  cases hw : wholeT L with
  | none => rfl
  | some x => exact absurd (end_whole hw) h
theorem right_bad {L : List Nod} (h : L.all nodOK = false) : rightL L = false := by
  unfold rightL; cases wholeT L with
  | none => rfl
  | some x => simp [h]

set_option maxRecDepth 100000 in
set_option maxHeartbeats 4000000 in
theorem rright_any (v : Value) (L : List Nod) (w : World) (h : ReadN w v L) (hl : L.length ≤ 10000) (hs : SmallN L) : Calls Tryz.prog 58 #[v] w (TellsB (rightL L) w) := by
  have HH := Lib.hid h
  have HS := Lib.hid hs
  obtain ⟨A, c, rfl, hc, hm, hr⟩ := h
  clear hr hs
  by_cases h40 : 40 < L.length
  · have HF := Lib.hid (right_long h40)
    have f1 : (40 : Int) < (L.length : Int) := by omega
    go_enter Tryz.func58, Tryz.ntmps58
    go_wp2_with fail
    go_ret
    exact ⟨ret_bool HF.out.symm, Below.refl _ _⟩
  · have f1 : ¬ (40 : Int) < (L.length : Int) := by omega
    have f2 : decide ((40 : Int) < (L.length : Int)) = false := by simp; omega
    have f3 : decide (40 < L.length) = false := by simp; omega
    by_cases he : endV L 0 = L.length
    · have HE := Lib.hid he
      clear he
      go_enter Tryz.func58, Tryz.ntmps58
      go_wp2_with fail
      refine (rend_any _ L 0 _ HH.out hl).mono ?_
      rw [HE.out]
      rintro e w' ⟨rfl, rfl⟩
      go_wp2_with fail
      go_loopw [3] (fun i wr => ∃ k : Nat, k ≤ L.length ∧ i = .int .i64 k ∧ (L.take k).all nodOK = true ∧ Below w.heap.size w wr) (fun i _ => L.length - (intOf i).toNat)
      case atStart => exact ⟨0, Nat.zero_le _, rfl, rfl, Below.refl _ _⟩
      case round =>
        obtain ⟨k, hk, rfl, hall, hbel⟩ := hrel
        have HB := Lib.hid hbel
        have HA := Lib.hid hall
        have hsz := hbel.size
        clear hall
        by_cases hlt : k < L.length
        · have hat : L[k]? = some L[k] := List.getElem?_eq_getElem hlt
          have hnm := HS.out _ (List.getElem_mem hlt)
          have HB2 : Hid (∀ o, Below w.heap.size w (wr.alloc o)) := Lib.hid (fun o => hbel.alloc hsz o)
          generalize L[k] = a at *
          obtain ⟨A', c', hv', _, _, hr⟩ := HH.out.on hbel
          obtain ⟨rfl, rfl⟩ : A = A' ∧ c = c' := by simp only [Value.slice.injEq] at hv'; exact ⟨hv'.1, hv'.2.2⟩
          obtain ⟨g, o, rfl, hg, x0, x1, x2, x3⟩ := hr k a hat
          have HW : Hid (nodOK a = false → rightL L = false) := Lib.hid (fun hp => right_bad (any_wrong hat hp))
          have HN : Hid (nodOK a = true → (L.take (k + 1)).all nodOK = true) := Lib.hid (fun hp => all_succN hat HA.out hp)
          clear hr hv' hat hbel
          obtain ⟨op, n, name, pl⟩ := a
          simp only at hnm x0 x1 x2 x3
          go_wp2_with fail
          all_goals first
            | (go_ret
               exact ⟨ret_bool (HW.out (by clear HW HN HB2 HB HA HS HH HE x0 x1 x2 x3; simp_all [nodOK]; try omega)).symm, HB2.out _⟩)
            | (go_roundw
               case rel => exact ⟨k + 1, by omega, by go_num, HN.out (by clear HW HN HB2 HB HA HS HH HE x0 x1 x2 x3; simp_all [nodOK]; try omega), HB2.out _⟩
               case measure => simp [intOf]; omega)
            | skip
          refine (rname_any ⟨name.toArray⟩ _ (by show name.toArray.size ≤ _; simpa using hnm)).mono ?_
          rw [show (ByteArray.mk name.toArray).data.toList = name from by simp]
          cases hnb : nameB name with
          | true =>
            rintro e w1 ⟨rfl, hb⟩
            have HB3 := Lib.hid (below_then (HB2.out _) hb)
            clear hb
            go_wp2_with fail
            go_roundw
            case rel => exact ⟨k + 1, by omega, by go_num, HN.out (by clear HW HN HB2 HB HA HS HH HE HB3 x0 x1 x2 x3; simp_all [nodOK]; try omega), HB3.out⟩
            case measure => simp [intOf]; omega
          | false =>
            rintro e w1 ⟨rfl, hb⟩
            have HB3 := Lib.hid (below_then (HB2.out _) hb)
            clear hb
            go_wp2_with fail
            go_ret
            exact ⟨ret_bool (HW.out (by clear HW HN HB2 HB HA HS HH HE HB3 x0 x1 x2 x3; simp_all [nodOK])).symm, HB3.out⟩
        · have hak : L.all nodOK = true := by
            have := HA.out
            rw [show k = L.length from by omega, List.take_length] at this
            exact this
          have HE2 := HE.out
          obtain ⟨x, hw⟩ : ∃ x, wholeT L = some x := by
            cases hw : wholeT L with
            | none => exact absurd HE2 (end_not hw)
            | some x => exact ⟨x, rfl⟩
          obtain ⟨hox, hfx⟩ := whole_some hw
          have HR : Hid (rightL L = decide (x.deep ≤ 12)) := Lib.hid (by
            rw [hfx, right_flat hox, ← hfx, hak, ← flat_len, ← hfx, show decide (L.length ≤ 40) = true from by simp; omega]; rfl)
          have hdz := deep_size x
          have hxl : x.size = L.length := by rw [hfx, flat_len]
          have HO := Lib.hid hox
          have HD : Hid (L.drop 0 = x.flat ++ []) := Lib.hid (by rw [← hfx]; simp)
          clear hak hw hox hfx hbel HE2
          go_wp2_with fail
          refine (rdeep_any x.size x _ L 0 [] _ (Nat.le_refl _) HO.out (HH.out.on HB.out) hl HD.out).mono ?_
          rintro e w' ⟨rfl, rfl⟩
          go_wp2_with fail
          go_ret
          exact ⟨ret_bool (by rw [HR.out]; simp; omega), HB.out⟩
    · have HF := Lib.hid (right_not he)
      have HE : Hid ((endV L 0 != (L.length : Int)) = true) := Lib.hid (by simpa using he)
      clear he
      go_enter Tryz.func58, Tryz.ntmps58
      go_wp2_with fail
      refine (rend_any _ L 0 _ HH.out hl).mono ?_
      generalize endV L 0 = q at *
      have hq := HE.out
      rintro e w' ⟨rfl, rfl⟩
      go_wp2_with fail
      go_ret
      exact ⟨ret_bool HF.out.symm, Below.refl _ _⟩
end Go.Proofs.YtpeohfgadnfnpaaGreatDoor
