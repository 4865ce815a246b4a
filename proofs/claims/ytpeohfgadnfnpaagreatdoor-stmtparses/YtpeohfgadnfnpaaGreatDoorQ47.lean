/-
  DERIVED. Layer 4: the contract of the document's reader's statement (leadlineref04), by how its blocks come back.
-/
import Derived.Test.YtpeohfgadnfnpaaGreatDoorQ46
import Derived.Test.YtpeohfgadnfnpaaGreatDoorQ08
import Derived.Deep.CutRange
namespace Go.Proofs.YtpeohfgadnfnpaaGreatDoor
open Go.RowKit

/-- The reader, and a statement in a block beside it. -/
structure Dx (L : List Tok) (W0 : World) (g : Nat) (lv : Value) (t : RS Unit) (K : List Sv) (kv : Value) (b : Nat) (x : Sv) (w : World) : Prop where
  st : Sr L W0 g lv t K kv w
  blk : w.heap[b]? = some (.cells (svCells x).toArray 31 (0, 0))
  re : ReadE W0.heap.size w x.vE x.s.e
  rf : ReadE W0.heap.size w x.vF x.s.f
  sd : Aside4 W0 g kv b
section
variable {L : List Tok} {W0 : World} {g : Nat} {lv : Value} {t t' : RS Unit} {K K' : List Sv} {kv kv' : Value} {w w' : World} {b : Nat} {x y : Sv}
theorem Dx.lt (h : Dx L W0 g lv t K kv b x w) : b < w.heap.size := (Array.getElem?_eq_some_iff.1 h.blk).1
theorem Dx.go (h : Dx L W0 g lv t K kv b x w) (hs : Sr L W0 g lv t' K' kv' w') (hk : KeepP (Mine g kv) w w') (ho : Onward kv kv' w) : Dx L W0 g lv t' K' kv' b x w' :=
  ⟨hs, by rw [hk.block b h.lt h.sd.not_mine]; exact h.blk, h.re.keep hk h.st.mine_nodes, h.rf.keep hk h.st.mine_nodes, h.sd.onward ho h.lt⟩
theorem Dx.gog (h : Dx L W0 g lv t K kv b x w) (hs : Sr L W0 g lv t' K kv w') (hk : KeepP (fun k => k = g) w w') : Dx L W0 g lv t' K kv b x w' :=
  h.go hs (hk.mono fun _ _ h => .inl h) (Onward.refl _ _)
theorem Dx.put (h : Dx L W0 g lv t K kv b x w) {j : Nat} {v : Value} (hy : (svCells x).toArray.setIfInBounds j v = (svCells y).toArray) (he : y.vE = x.vE) (hf : y.vF = x.vF) (he2 : y.s.e = x.s.e) (hf2 : y.s.f = x.s.f) : Dx L W0 g lv t K kv b y (w.setCell ⟨b, j, none⟩ v) := by
  have hk : KeepP (fun k => k = b) w (w.setCell ⟨b, j, none⟩ v) := KeepP.set
  have hn : ∀ q cs fr, w.heap[q]? = some (.cells cs 33 fr) → ¬ (q = b) := fun q cs fr hh e => by rw [e, h.blk] at hh; simp at hh
  exact ⟨h.st.aside h.blk h.sd.ne h.sd.own h.sd.low hk, by rw [set_blk h.blk, hy], by rw [he, he2]; exact h.re.keep hk hn, by rw [hf, hf2]; exact h.rf.keep hk hn, h.sd⟩
/-- What the last store asks of the row. -/
theorem Sr.nine {P Q : List Sv} (h : Sr L W0 g lv t (P ++ [x] ++ Q) kv w) : ∃ gq cap, kv = .slice (some ⟨gq, 0, none⟩) (P ++ [x] ++ Q).length cap ∧ gq < w.heap.size ∧ (∀ j, j < 9 → ∃ v, w.cell? ⟨gq, P.length * 9 + j, none⟩ = some v) ∧ (∀ j, w.frozen? ⟨gq, j, none⟩ = false) := by
  rcases h.row.2 with ⟨_, h0⟩ | ⟨gq, cap, cur, h1, h2, h3, h4, h5, h6, h7⟩
  · simp at h0
  · refine ⟨gq, cap, h1, (Array.getElem?_eq_some_iff.1 h3).1, fun j hj => ?_, fun j => Lib.frozen_of_heap h3 j⟩
    have h8 := row_size h7
    have hl : P.length + 1 ≤ (P ++ [x] ++ Q).length := by simp only [List.length_append, List.length_cons, List.length_nil]; omega
    have hlt : P.length * 9 + j < cur.size := by
      have h9 : P.length * 9 + 9 ≤ (P ++ [x] ++ Q).length * 9 := by have := Nat.mul_le_mul_right 9 hl; omega
      omega
    exact ⟨cur[P.length * 9 + j], by rw [Lib.cell_of_heap h3]; simp [hlt]⟩
end
theorem one_plain {L : List Tok} {q : RS Stm} {r : RS One} (h : RS.obind (some q) (fun s j => RS.obind (some (mustP L j [59])) fun _ j => some (.ok (⟨s, .nil, .nil⟩ : One) j)) = some r) : r.unit = q.unit.bind (fun _ j => mustP L j [59]) ∧ ∀ o j, r = .ok o j → q.got o.s ∧ o.b = .nil ∧ o.e = .nil := by
  cases q with
  | bad e p => obtain rfl := Option.some.inj h; exact ⟨rfl, fun o j e => by cases e⟩
  | ok s j =>
    rw [RS.obind_ok] at h
    simp only [RS.unit_ok, RS.bind_ok]
    cases hm : mustP L j [59] with
    | bad e p => rw [hm] at h; obtain rfl := Option.some.inj h; exact ⟨rfl, fun o j e => by cases e⟩
    | ok u j2 =>
      rw [hm] at h
      obtain rfl := Option.some.inj h
      refine ⟨rfl, fun o j e => ?_⟩
      simp only [RS.ok.injEq] at e
      rw [← e.1]
      exact ⟨rfl, rfl, rfl⟩
theorem one_loop {row : Rows4} {L : List Tok} {q : RS Stm} {r : RS One} {d l : Nat} (h : RS.obind (some q) (fun s j => RS.obind (blockW row L j d l) fun b j => RS.obind (elseW4 row L 12 j d l) fun e j => some (.ok (⟨{ s with body := b.count, els := e.count }, b, e⟩ : One) j)) = some r) :
    ∃ r2, RS.obind (some q.unit) (fun _ j => blockW row L j d l) = some r2 ∧ r.unit = r2.unit ∧ ∀ o j, r = .ok o j → ∃ s j0 b, q = .ok s j0 ∧ r2 = .ok b j ∧ o = ⟨{ s with body := b.count, els := 0 }, b, .nil⟩ := by
  cases q with
  | bad e p => obtain rfl := Option.some.inj h; exact ⟨.bad e p, rfl, rfl, fun o j e => by cases e⟩
  | ok s j =>
    rw [RS.obind_ok] at h
    rcases RS.obind_some h with ⟨b, j2, h1, h2⟩ | ⟨e, p, h1, rfl⟩
    · refine ⟨.ok b j2, h1, ?_⟩
      unfold elseW4 at h2
      rw [if_neg (by omega), RS.obind_ok] at h2
      obtain rfl := Option.some.inj h2
      refine ⟨rfl, fun o j3 e => ?_⟩
      simp only [RS.ok.injEq] at e
      obtain ⟨rfl, rfl⟩ := e
      exact ⟨s, j, b, rfl, rfl, rfl⟩
    · exact ⟨.bad e p, h1, rfl, fun o j e => by cases e⟩
theorem one_if {row : Rows4} {L : List Tok} {q : RS Stm} {r : RS One} {d l : Nat} (h : RS.obind (some q) (fun s j => RS.obind (blockW row L j d l) fun b j => RS.obind (elseW4 row L 11 j d l) fun e j => some (.ok (⟨{ s with body := b.count, els := e.count }, b, e⟩ : One) j)) = some r) :
    ∃ r2, RS.obind (some q.unit) (fun _ j => blockW row L j d l) = some r2 ∧ ∃ r3, RS.obind (some r2.unit) (fun _ j => elseW4 row L 11 j d l) = some r3 ∧ r.unit = r3.unit ∧ ∀ o j, r = .ok o j → ∃ s j0 b j1 e, q = .ok s j0 ∧ r2 = .ok b j1 ∧ r3 = .ok e j ∧ o = ⟨{ s with body := b.count, els := e.count }, b, e⟩ := by
  cases q with
  | bad e p => obtain rfl := Option.some.inj h; exact ⟨.bad e p, rfl, .bad e p, rfl, rfl, fun o j e => by cases e⟩
  | ok s j =>
    rw [RS.obind_ok] at h
    rcases RS.obind_some h with ⟨b, j2, h1, h2⟩ | ⟨e, p, h1, rfl⟩
    · refine ⟨.ok b j2, h1, ?_⟩
      rcases RS.obind_some h2 with ⟨c, j3, h3, h4⟩ | ⟨e, p, h3, rfl⟩
      · obtain rfl := Option.some.inj h4
        refine ⟨.ok c j3, h3, rfl, fun o j4 e => ?_⟩
        simp only [RS.ok.injEq] at e
        obtain ⟨rfl, rfl⟩ := e
        exact ⟨s, j, b, j2, c, rfl, rfl, rfl, rfl⟩
      · exact ⟨.bad e p, h3, rfl, fun o j e => by cases e⟩
    · exact ⟨.bad e p, h1, .bad e p, rfl, rfl, fun o j e => by cases e⟩
theorem row_slice9 {w : World} {B : Nat} {v : Value} {n : Nat} {xs : List Value} (h : w.ownsRow B 31 9 v n xs) : ∃ A c, v = .slice A n c := by
  rcases h.2 with ⟨rfl, rfl⟩ | ⟨g, cap, cur, h1, _⟩
  · exact ⟨_, _, rfl⟩
  · exact ⟨_, _, h1⟩
theorem unit_ok_inv {α : Type} {r : RS α} {u : Unit} {j : Nat} (h : r.unit = .ok u j) : ∃ a, r = .ok a j := by
  cases r with
  | ok a j0 => simp only [RS.unit_ok, RS.ok.injEq] at h; exact ⟨a, by rw [h.2]⟩
  | bad e p => cases h
theorem begins_plain {L : List Tok} {q : RS Stm} {i : Nat} {K : List Sv} (h : Ahead L i q) (hK : K.length ≤ i) (x0 : Sv) : Begins L q.unit (K ++ [x0]) := by
  intro u j hj
  obtain ⟨a, rfl⟩ := unit_ok_inv hj
  have h1 := h.1
  have h2 := h.2
  exact ⟨by simp only [List.length_append, List.length_cons, List.length_nil]; omega, .inl h2⟩
theorem begins_block {row : Rows4} {L : List Tok} (_hra : RowAhead L row) (hrc : RowCount row) {x0 : Sv} {K : List Sv} {t : RS Unit} {d l : Nat} {r2 : RS Bk} (hb : Begins L t (K ++ [x0])) (h : RS.obind (some t) (fun _ j => blockW row L j d l) = some r2) : ∀ b j, r2 = .ok b j → ∀ K2 : List Sv, K2.map (·.s) = b.flat → j < L.length → Begins L (.ok () (j + 1)) (K ++ [x0] ++ K2) := by
  intro b j hr K2 hK2 hj u i hi
  simp only [RS.ok.injEq, true_and] at hi
  cases t with
  | bad e p => rw [RS.obind_bad, hr] at h; cases h
  | ok u0 j0 =>
    rw [RS.obind_ok, hr] at h
    have h1 := block_count hrc h
    have h2 := (hb u0 j0 rfl).1
    have h3 : K2.length = b.count := by have := congrArg List.length hK2; rw [List.length_map, flat_count] at this; exact this
    rw [List.length_append]
    exact ⟨by omega, .inl (by omega)⟩
section
variable {L : List Tok} {W0 : World} {g : Nat} {lv : Value} {t : RS Unit} {K : List Sv} {kv : Value} {w : World}
theorem oneW_at (row : Rows4) (L : List Tok) (i d l : Nat) (h : ¬ (kindAt L i = 13 ∧ l = 0)) : oneW row L i d l = RS.obind (some (plainAt L i)) fun s j =>
    if ¬ blkK (kindAt L i : Nat) then RS.obind (some (mustP L j [59])) fun _ j => some (.ok ⟨s, .nil, .nil⟩ j)
    else RS.obind (blockW row L j (d + 1) (inL (kindAt L i) l)) fun b j => RS.obind (elseW4 row L (kindAt L i) j (d + 1) (inL (kindAt L i) l)) fun e j => some (.ok ⟨{ s with body := b.count, els := e.count }, b, e⟩ j) := by
  unfold oneW
  rw [if_neg h]
  rfl
set_option maxRecDepth 100000 in
set_option maxHeartbeats 16000000 in
theorem done_step {row : Rows4} (hra : RowAhead L row) (hrc : RowCount row) (hs : Src L W0 lv) (hB : DBlockSays L W0 g lv row) : DOneSays L W0 g lv row := by
  intro i d l K kv w r h hmi hil hd hl hr
  have HS := Lib.hid h
  have HC := Lib.hid hs
  have HBL := Lib.hid hB
  have HR := Lib.hid hr
  have hlen := hs.len
  have hgl := h.lt
  obtain ⟨pos, _, ⟨_, c0, c1, c2, c3, c4, f1, f2, f3, f4⟩⟩ := h.okc
  have hkr := kind_range L i
  clear h hs hB hr
  go_enter Tryz.func47, Tryz.ntmps47
  go_wp2_with fail
  go_region_held3 (fun w' => w'.cell? ⟨g, 0, none⟩ = some lv ∧ w'.cell? ⟨g, 1, none⟩ = some (.int .i64 i) ∧ Below w.heap.size w w')
    (first | exact ⟨c0, c1, Below.refl _ _⟩ | exact ⟨c0, c1, below_dr _⟩ | exact kept2 (w1 := w.drew) hgl ⟨c0, c1, below_dr _⟩ hb1)
    (first | (go_at_call 68; refine (rplace_any lv L i _ ((HS.out.on (below_dr _)).toks HC.out) HC.out.len HC.out.small).mono ?_; rintro e w1 ⟨rfl, hb1⟩))
  have HB1 := Lib.hid (below_then (below_dr w) hb1)
  clear hb1 c0 c1 c2 c3 c4 f1 f2 f3 f4
  obtain ⟨pv, hpv⟩ : ∃ pv, placeV L i = pv := ⟨_, rfl⟩
  have HPV := Lib.hid hpv
  rw [hpv]
  have HK2 := Lib.hid (kindTo_two L i)
  clear hpv
  go_wp2_with fail
  go_loopw [6, 8] (fun kd kk wr => ∃ k : Nat, 2 ≤ k ∧ k ≤ 15 ∧ kk = .int .i64 k ∧ kd = .int .i64 (kindTo L i k : Nat) ∧ Below w.heap.size w wr) (fun _ kk _ => 15 - (intOf kk).toNat)
  case atStart => exact ⟨2, by omega, by omega, rfl, by rw [HK2.out]; rfl, HB1.out⟩
  case round =>
    obtain ⟨k, hk2, hk15, rfl, rfl, hbel⟩ := hrel
    have HB := Lib.hid hbel
    have HSR := Lib.hid (HS.out.on hbel)
    obtain ⟨posr, _, ⟨hglr, c0, c1, c2, c3, c4, f1, f2, f3, f4⟩⟩ := HSR.out.okc
    clear hbel
    rcases Nat.lt_or_ge k 15 with hlt | hge
    case inl =>
      have hkI : (k : Int) ≤ 14 := by omega
      have hw1 : IntKind.i64.wrap ((k : Int) + 1) = (k : Int) + 1 := IntWalk.i64_in _ (by omega)
      cases hq : isB L i (kwL (k : Nat)) with
      | true =>
        have HI := Lib.hid hq
        have HN := Lib.hid (kindTo_yes (by omega) (by omega) hq)
        clear hq
        go_wp2_with fail
        go_region_held3 (fun w' => w'.cell? ⟨g, 0, none⟩ = some lv ∧ w'.cell? ⟨g, 1, none⟩ = some (.int .i64 i) ∧ Below wr.heap.size wr w')
          (first | exact ⟨c0, c1, Below.refl _ _⟩ | exact ⟨c0, c1, below_dr _⟩ | exact kept2 (w1 := wr.drew) hglr ⟨c0, c1, below_dr _⟩ hb1 | exact kept2 hglr (kept2 (w1 := wr.drew) hglr ⟨c0, c1, below_dr _⟩ hb1) hb2)
          (first
            | (go_at_call 69; refine (rword_any k _ (by omega) (by omega)).mono ?_; rintro e w1 ⟨rfl, hb1⟩)
            | (go_at_call 44; refine (ris_at HI.out lv _ ((HSR.out.on (below_then (below_dr _) hb1)).toks HC.out)).mono ?_; rintro e w2 ⟨rfl, hb2⟩))
        have HB2 := Lib.hid (below_then HB.out (below_then (below_then (below_dr wr) hb1) hb2))
        clear hb1 hb2
        go_wp2_with fail
        go_roundw
        case rel => exact ⟨k + 1, by omega, by omega, by go_num, by rw [HN.out], HB2.out⟩
        case measure => simp [intOf]; omega
      | false =>
        have HI := Lib.hid hq
        have HN := Lib.hid (kindTo_no (by omega) hq)
        clear hq
        go_wp2_with fail
        go_region_held3 (fun w' => w'.cell? ⟨g, 0, none⟩ = some lv ∧ w'.cell? ⟨g, 1, none⟩ = some (.int .i64 i) ∧ Below wr.heap.size wr w')
          (first | exact ⟨c0, c1, Below.refl _ _⟩ | exact ⟨c0, c1, below_dr _⟩ | exact kept2 (w1 := wr.drew) hglr ⟨c0, c1, below_dr _⟩ hb1 | exact kept2 hglr (kept2 (w1 := wr.drew) hglr ⟨c0, c1, below_dr _⟩ hb1) hb2)
          (first
            | (go_at_call 69; refine (rword_any k _ (by omega) (by omega)).mono ?_; rintro e w1 ⟨rfl, hb1⟩)
            | (go_at_call 44; refine (ris_at HI.out lv _ ((HSR.out.on (below_then (below_dr _) hb1)).toks HC.out)).mono ?_; rintro e w2 ⟨rfl, hb2⟩))
        have HB2 := Lib.hid (below_then HB.out (below_then (below_then (below_dr wr) hb1) hb2))
        clear hb1 hb2
        go_wp2_with fail
        go_roundw
        case rel => exact ⟨k + 1, by omega, by omega, by go_num, by rw [HN.out], HB2.out⟩
        case measure => simp [intOf]; omega
    case inr =>
      obtain rfl : k = 15 := by omega
      have HKA := Lib.hid (kindTo_all L i)
      rw [HKA.out]
      obtain ⟨kn, hkn⟩ : ∃ kn, kindAt L i = kn := ⟨_, rfl⟩
      rw [hkn] at hkr ⊢
      have HKN := Lib.hid hkn
      clear hkn
      by_cases hA : kn = 13 ∧ l = 0
      · obtain ⟨rfl, rfl⟩ := hA
        have HV : Hid (r = badR L i 5) := Lib.hid (by
          have h := HR.out
          unfold oneW at h
          rw [if_pos ⟨HKN.out, rfl⟩] at h
          exact (Option.some.inj h).symm)
        clear c0 c1 c2 c3 c4 f1 f2 f3 f4
        go_wp2_with fail
        refine (dbad HC.out HSR.out (er := 5) (by decide)).mono ?_
        rintro e1 w1 ⟨rfl, hs1, hk1⟩
        have HS2 := Lib.hid hs1
        have HK3 := Lib.hid ((KeepP.of (P := Mine g kv) HB.out).trans hk1 (fun _ _ h => h) (fun _ _ h => .inl h))
        clear hs1 hk1
        go_wp2_with fail
        refine bodyPost_ret (v := .tuple #[]) (by simp [results, Tryz.results47, go_sem]) rfl ?_
        exact ⟨rfl, [], kv, by rw [HV.out, List.append_nil]; exact HS2.out, fun o j e => (by rw [HV.out] at e; cases e), Onward.refl _ _, HK3.out⟩
      · have HV : Hid (RS.obind (some (plainP L kn pv (if kn = 1 then i else i + 1))) (fun s j => if ¬ blkK (kn : Nat) then RS.obind (some (mustP L j [59])) fun _ j => some (.ok ⟨s, .nil, .nil⟩ j)
            else RS.obind (blockW row L j (d + 1) (inL kn l)) fun b j => RS.obind (elseW4 row L kn j (d + 1) (inL kn l)) fun e j => some (.ok ⟨{ s with body := b.count, els := e.count }, b, e⟩ j)) = some r) := Lib.hid (by
          have h := HR.out
          rw [oneW_at row L i d l (by rw [HKN.out]; exact hA)] at h
          unfold plainAt at h
          rw [HKN.out, HPV.out] at h
          exact h)
        have HAH := Lib.hid (by
          have h := plainAt_ahead L i
          unfold plainAt at h
          rw [HKN.out, HPV.out] at h
          exact h)
        obtain ⟨i1, hi1⟩ : ∃ i1, (if kn = 1 then i else i + 1) = i1 := ⟨_, rfl⟩
        rw [hi1] at HV HAH
        have HI1 := Lib.hid hi1
        clear hi1
        go_upto_region 6 with (fail)
        go_cut [42] from 37 to 42 (fun cc wx => cc = .bool false ∧ wx = wr)
        case first =>
          by_cases h13 : kn = 13
          · have e1 : ((kn : Int) == 13) = true := by simp; omega
            have e2 : ((l : Int) == 0) = false := by simp; omega
            clear hA h13
            go_wp2_with fail
            go_meet
            case rel => exact ⟨rfl, rfl⟩
          · have e1 : ((kn : Int) == 13) = false := by simp; omega
            clear hA h13
            go_wp2_with fail
            go_meet
            case rel => exact ⟨rfl, rfl⟩
        case rest =>
          obtain ⟨rfl, rfl⟩ := hcut
          go_upto_if 46 with (fail)
          go_cut [42] from 43 to 54 (fun _ wx => Sr L W0 g lv (.ok () i1) K kv wx ∧ KeepP (fun k => k = g) wc wx)
          case first =>
            by_cases h1 : kn = 1
            · have e1 : ((kn : Int) == 1) = true := by simp; omega
              have e2 : ((kn : Int) != 1) = false := by simp; omega
              have HIE : Hid (i = i1) := Lib.hid (by rw [← HI1.out, if_pos h1])
              clear h1
              go_wp2_with fail
              go_meet
              case rel => exact ⟨by rw [← HIE.out]; exact HSR.out, KeepP.refl _ _⟩
            · have e1 : ((kn : Int) == 1) = false := by simp; omega
              have e2 : ((kn : Int) != 1) = true := by simp; omega
              have HIE : Hid (i + 1 = i1) := Lib.hid (by rw [← HI1.out, if_neg h1])
              have hw1 : IntKind.i64.wrap ((i : Int) + 1) = (i : Int) + 1 := IntWalk.i64_in _ (by omega)
              clear h1
              go_wp2_with fail
              go_meet
              case rel => exact ⟨by rw [← HIE.out]; exact HSR.out.set1 (j := i + 1), KeepP.set⟩
          case rest =>
            obtain ⟨hs1, hk1⟩ := hcut
            have HS1 := Lib.hid hs1
            have HK1 := Lib.hid ((KeepP.of (P := fun k => k = g) HB.out).same hk1)
            clear hs1 hk1 c0 c1 c2 c3 c4 f1 f2 f3 f4 hglr
            go_wp2_with fail
            refine (dplain_any hkr.1 hkr.2 HC.out HS1.out pv).mono ?_
            rintro e3 w3 ⟨⟨s, vE, vF⟩, rfl, hE, hF, hg, hs3, hk3⟩
            obtain ⟨AE, cE, hvE, _⟩ := id hE.rd
            obtain ⟨AF, cF, hvF, _⟩ := id hF.rd
            simp only at hvE hvF hE hF hg
            subst hvE hvF
            obtain ⟨nE, hnE⟩ : ∃ nE, s.e.length = nE := ⟨_, rfl⟩
            obtain ⟨nF, hnF⟩ : ∃ nF, s.f.length = nF := ⟨_, rfl⟩
            rw [hnE] at hE ⊢
            rw [hnF] at hF ⊢
            clear hnE hnF
            obtain ⟨AK, cK, hkv⟩ := row_slice9 hs3.row
            obtain ⟨jq, erq, posq, hbq, _⟩ := hs3.blk
            have hgl3 := hs3.lt
            have HS3 := Lib.hid hs3
            have HE := Lib.hid hE
            have HF := Lib.hid hF
            have HG := Lib.hid hg
            have HK3 := Lib.hid (HK1.out.same hk3)
            have HKV := Lib.hid hkv
            have HBQ := Lib.hid hbq
            rw [hkv] at hbq
            obtain ⟨_, c0, c1, c2, c3, c4, f1, f2, f3, f4⟩ := p5d_of hbq
            clear hs3 hE hF hg hk3 hkv hbq
            dsimp only [svCells]
            go_upto_region 12 with (fail)
            obtain ⟨x0, hx0⟩ : ∃ x0 : Sv, x0 = ⟨s, .slice AE nE cE, .slice AF nF cF⟩ := ⟨_, rfl⟩
            have hb3 := (Below.refl w3.heap.size w3).alloc (Nat.le_refl _) (.cells (svCells x0).toArray 31)
            have hX : Hid (Dx L W0 g lv (plainP L kn pv i1).unit K kv w3.heap.size x0 (w3.alloc (.cells (svCells x0).toArray 31))) := Lib.hid (by
              have hh := (Array.getElem?_eq_some_iff.1 (heap_alloc_new w3 (.cells (svCells x0).toArray 31))).1
              refine ⟨HS3.out.on hb3, heap_alloc_new w3 _, ?_, ?_, ⟨?_, ?_, HS3.out.low.size⟩⟩
              · exact (show ReadE W0.heap.size w3 x0.vE x0.s.e by rw [hx0]; exact HE.out).on hb3
              · exact (show ReadE W0.heap.size w3 x0.vF x0.s.f by rw [hx0]; exact HF.out).on hb3
              · omega
              · intro e; have := (HS3.out.own_ne _ e).2.1; omega)
            have HXK : Hid (KeepP (fun k => k = g) w (w3.alloc (.cells (svCells x0).toArray 31))) := Lib.hid (HK3.out.same (KeepP.of hb3))
            have HW : Hid (w.heap.size ≤ w3.heap.size) := Lib.hid HK3.out.size
            have hx9 : w3.alloc (.cells (svCells x0).toArray 31) = w3.alloc (.cells #[.int .i64 s.kind, .string ⟨s.reg.toArray⟩, .string ⟨s.name.toArray⟩, .slice AE nE cE, .slice AF nF cF, .int .i64 s.n, .int .i64 s.body, .int .i64 s.els, .int .i64 s.pl] 31) := by rw [hx0]; rfl
            have c4x : (w3.alloc (.cells (svCells x0).toArray 31)).cell? ⟨g, 4, none⟩ = some (.slice AK K.length cK) := (hb3.cell (p := ⟨g, 4, none⟩) hgl3).trans c4
            have f4x : (w3.alloc (.cells (svCells x0).toArray 31)).frozen? ⟨g, 4, none⟩ = false := (hb3.frozen (p := ⟨g, 4, none⟩) hgl3).trans f4
            rw [← hx9]
            generalize w3.alloc (.cells (svCells x0).toArray 31) = X at *
            generalize w3.heap.size = b at *
            have hbX := hX.out.lt
            have hgX := hX.out.st.lt
            have n9 := nine_of hX.out.blk
            rw [hx0] at n9
            obtain ⟨_, z0, z1, z2, z3, z4, z5, z6, z7, z8⟩ := n9
            simp only at z0 z1 z2 z3 z4 z5 z6 z7 z8
            have HX0 := Lib.hid hx0
            clear hx9 hb3 hgl3 c0 c1 c2 c3 c4 f1 f2 f3 f4 hx0
            obtain ⟨i0, hi, hz0, hz1, hz2⟩ := info_parts infoStm
            have HZI := Lib.hid (show Tryz.prog.info? 31 = some i0 ∧ i0.zero = some (.agg #[.int .i64 0, .string ⟨#[]⟩, .string ⟨#[]⟩, .slice none 0 0, .slice none 0 0, .int .i64 0, .int .i64 0, .int .i64 0, .int .i64 0]) ∧ i0.size = 9 ∧ i0.bytes = 120 from ⟨hi, hz0, hz1, hz2⟩)
            clear hi hz0 hz1 hz2
            go_cut [10] from 64 to 73 (fun u wx => u = .int .i64 (K.length : Nat) ∧ ∃ g5 cap, Dx L W0 g lv (plainP L kn pv i1).unit (K ++ [x0]) (.slice (some ⟨g5, 0, none⟩) (K.length + 1) cap) b x0 wx ∧ Onward kv (.slice (some ⟨g5, 0, none⟩) (K.length + 1) cap) X ∧ KeepP (Mine g kv) X wx)
            case first =>
              have HROW : Hid (X.ownsRow W0.heap.size 31 9 (.slice AK K.length cK) K.length (cellsV K)) := Lib.hid (by rw [← HKV.out]; exact hX.out.st.row)
              have HWB : Hid (W0.heap.size ≤ X.heap.size) := Lib.hid hX.out.st.low.size
              have HNO : Hid (∀ q, (Value.slice AK K.length cK).ownBlock = some q → q ≠ g) := Lib.hid (fun q hq => (hX.out.st.own_ne q (by rw [HKV.out]; exact hq)).1)
              have hKl : K.length ≤ 10000 := by omega
              go_wp2_with fail
              go_region_law (refine step_append_lies _ rfl (.tmp 68) (.tmp 70) 24 rfl W0.heap.size 31 i0 (.agg #[.int .i64 0, .string ⟨#[]⟩, .string ⟨#[]⟩, .slice none 0 0, .slice none 0 0, .int .i64 0, .int .i64 0, .int .i64 0, .int .i64 0]) 9 120 Tryz.underlying24 HZI.out.1 HZI.out.2.1 HZI.out.2.2.1 HZI.out.2.2.2 rfl (by decide) (.slice AK K.length cK) K.length (cellsV K) (by rfl) (row_on2 HROW.out) ⟨X.heap.size, 0, none⟩ 1 1 (svCells ⟨s, .slice AE nE cE, .slice AF nF cF⟩) (by rfl) (by rfl) (World.news_of_block (cs := (svCells ⟨s, .slice AE nE cE, .slice AF nF cF⟩).toArray) (new_at X _)) (sv_one ⟨_, _, _, rfl⟩ ⟨_, _, _, rfl⟩) (by decide) (by unfold maxLen; omega) (by omega) (size_on2 HWB.out) (X.heap.size + 1) (by simp) ?_; intro g5 cap w5 hown5 hgrow5 hat5 hlt5; obtain ⟨d5, e5⟩ := cell_grown hgrow5 HNO.out hgX c4x f4x; have hg5 : g < w5.heap.size := Nat.lt_of_lt_of_le hgX (Nat.le_trans (by simp) hgrow5.size))
              all_goals
                have HOW := Lib.hid hown5
                have HGR := Lib.hid hgrow5
                have HAT := Lib.hid hat5
                clear hown5 hgrow5 hat5
                go_wp2_with fail
                go_meet
                case rel =>
                  have hb2 : Below X.heap.size X (X.drew.alloc (.cells (svCells ⟨s, .slice AE nE cE, .slice AF nF cF⟩).toArray 31)) := (below_dr X).alloc (Nat.le_refl _) _
                  have hgf : g5 ≠ g := by
                    rcases HAT.out with h1 | h1
                    · exact HNO.out g5 h1
                    · omega
                  have hge : kv.ownBlock = some g5 ∨ X.heap.size ≤ g5 := by
                    rcases HAT.out with h1 | h1
                    · exact .inl (by rw [HKV.out]; exact h1)
                    · exact .inr (by omega)
                  have hX5 : KeepP (Mine g kv) X w5 := (KeepP.of (P := fun _ => False) hb2).trans (KeepP.grown (row := kv.ownBlock) (by rw [HKV.out]; exact HGR.out)) (fun _ _ h => h.elim) (fun _ _ h => .inr h)
                  obtain ⟨q1, q2, q3⟩ := hX.out.st.more (x := x0) (hX.out.re.keep hX5 hX.out.st.mine_nodes) (hX.out.rf.keep hX5 hX.out.st.mine_nodes) hb2 (by rw [HX0.out]; exact HOW.out) (by rw [HKV.out]; exact HGR.out) hge hgf
                  exact ⟨rfl, g5, cap, hX.out.go q1 q2 q3, q3, q2⟩
            case rest =>
              obtain ⟨rfl, g5, cap5, hx4, ho4, hk4⟩ := hcut
              have HX4 := Lib.hid hx4
              have HO4 : Hid (Onward kv (.slice (some ⟨g5, 0, none⟩) (K.length + 1) cap5) w) := Lib.hid ((Onward.refl kv w).trans ho4 HXK.out.size)
              have HK4 : Hid (KeepP (Mine g kv) w wc) := Lib.hid ((HXK.out.mono fun _ _ h => .inl h).trans hk4 (fun _ _ h => h) (fun _ _ h => h))
              clear hx4 ho4 hk4 z0 z1 z2 z3 z4 z5 z6 z7 z8 c4x f4x hbX hgX
              by_cases hblk : kn = 11 ∨ kn = 12
              case neg =>
                have hv := HV.out
                simp only [show ¬ blkK (kn : Nat) from by unfold blkK; omega, not_false_eq_true, if_true] at hv
                have HP := Lib.hid (one_plain hv)
                have e1 : ((kn : Int) != 11) = true := by simp; omega
                have e2 : ((kn : Int) != 12) = true := by simp; omega
                have e3 : ((kn : Int) == 11) = false := by simp; omega
                have e4 : ((kn : Int) == 12) = false := by simp; omega
                clear hv hblk
                go_wp2_with fail
                refine (dmust HC.out HX4.out.st [59]).mono ?_
                rintro e6 w6 ⟨rfl, hs6, hk6⟩
                have HS6 := Lib.hid hs6
                have HK6 := Lib.hid (HK4.out.trans hk6 (R := Mine g kv) (fun _ _ h => h) (fun _ _ h => .inl h))
                clear hs6 hk6
                go_wp2_with fail
                refine bodyPost_ret (v := .tuple #[]) (by simp [results, Tryz.results47, go_sem]) rfl ?_
                refine ⟨rfl, [x0], _, by rw [HP.out.1]; exact HS6.out, fun o j e => ?_, HO4.out, HK6.out⟩
                obtain ⟨g1, g2, g3⟩ := HP.out.2 o j e
                rw [g2, g3, HX0.out]
                have hgg := HG.out
                cases hq : plainP L kn pv i1 with
                | bad e9 p9 =>
                  have h9 := HP.out.1
                  rw [hq, e] at h9
                  cases h9
                | ok s0 j0 =>
                  rw [hq] at hgg g1
                  have h5 : o.s = s0 := g1
                  have h6 : s = s0 := hgg
                  rw [h5, ← h6]
                  rfl
              case pos =>
                rcases hblk with rfl | rfl
                case inr =>
                  have hv := HV.out
                  simp only [show blkK ((12 : Nat) : Int) from .inr rfl, not_true_eq_false, if_false, show inL 12 l = l + 1 from rfl] at hv
                  have hbeg : Begins L (plainP L 12 pv i1).unit (K ++ [x0]) := begins_plain HAH.out hmi x0
                  have HBEG := Lib.hid hbeg
                  have HBW : Hid (w.heap.size ≤ b) := HW
                  have hw2 : IntKind.i64.wrap ((d : Int) + 1) = (d : Int) + 1 := IntWalk.i64_in _ (by omega)
                  obtain ⟨r2, hr2, hru, hro⟩ := one_loop hv
                  have HR2 := Lib.hid hr2
                  have HRU := Lib.hid hru
                  have HRO := Lib.hid hro
                  have hw1 : IntKind.i64.wrap ((l : Int) + 1) = (l : Int) + 1 := IntWalk.i64_in _ (by omega)
                  clear hv hr2 hru hro hbeg
                  go_wp2_with fail
                  rw [show ((d : Int) + 1) = ((d + 1 : Nat) : Int) from by omega, show ((l : Int) + 1) = ((l + 1 : Nat) : Int) from by omega]
                  refine (HBL.out _ (d + 1) (l + 1) _ _ _ r2 HX4.out.st HBEG.out (by omega) (by omega) HR2.out).mono ?_
                  rintro e5 w5 ⟨n, K2, kv2, rfl, hs5, hv5, ho5, hk5⟩
                  have HX5 := Lib.hid (HX4.out.go hs5 hk5 ho5)
                  have HV5 := Lib.hid hv5
                  have HO5 : Hid (Onward kv kv2 w) := Lib.hid (HO4.out.trans ho5 HK4.out.size)
                  have HK5 : Hid (KeepP (Mine g kv) w w5) := Lib.hid (HK4.out.trans hk5 (fun _ _ h => h) (fun q hq h => Mine.onward HO4.out q hq h))
                  have lb5 := HX5.out.lt
                  obtain ⟨_, _, _, _, _, _, _, zb, _, _⟩ := nine_of HX5.out.blk
                  have fzb := Lib.frozen_of_heap HX5.out.blk 6
                  clear hs5 hv5 ho5 hk5
                  go_upto_region 19 with (fail)
                  have HX6 : Hid (Dx L W0 g lv r2.unit (K ++ [x0] ++ K2) kv2 b ⟨{ s with body := n }, .slice AE nE cE, .slice AF nF cF⟩ (w5.setCell ⟨b, 6, none⟩ (.int .i64 n))) := Lib.hid (HX5.out.put (by rw [HX0.out]; rfl) (by rw [HX0.out]) (by rw [HX0.out]) (by rw [HX0.out]) (by rw [HX0.out]))
                  have HK6 : Hid (KeepP (Mine g kv) w (w5.setCell ⟨b, 6, none⟩ (.int .i64 n))) := Lib.hid (HK5.out.trans (KeepP.set (g := b)) (fun _ _ h => h) (fun k hk e => by have := HBW.out; omega))
                  generalize w5.setCell ⟨b, 6, none⟩ (.int .i64 n) = W6 at *
                  clear zb fzb lb5 HX5 HK5
                  go_wp2_with fail
                  go_quiet (fail)
                  have hnq := below_drew1 W6 nq
                  have HX7 := Lib.hid (HX6.out.go (HX6.out.st.on hnq) (KeepP.of hnq) (Onward.refl _ _))
                  have HK7 : Hid (KeepP (Mine g kv) w _) := Lib.hid (HK6.out.trans (KeepP.of (P := fun _ => False) hnq) (fun _ _ h => h) (fun _ _ h => h.elim))
                  generalize W6.drewN nq = W7 at *
                  clear hnq
                  obtain ⟨gq, capq, hkvq, hgq, hcur, hfz⟩ := HX7.out.st.nine (P := K) (Q := K2)
                  obtain ⟨NN, hNN⟩ : ∃ NN, (K ++ [x0] ++ K2).length = NN := ⟨_, rfl⟩
                  have HKVQ := Lib.hid hkvq
                  have hKN : K.length < NN := by rw [← hNN]; simp only [List.length_append, List.length_cons, List.length_nil]; omega
                  rw [hNN] at hkvq
                  obtain ⟨jq9, erq9, posq9, hbq, hstq⟩ := HX7.out.st.blk
                  rw [hkvq] at hbq
                  obtain ⟨hgl9, c0, c1, c2, c3, c4, f1, f2, f3, f4⟩ := p5d_of hbq
                  obtain ⟨v0, u0⟩ := hcur 0 (by omega)
                  obtain ⟨v1, u1⟩ := hcur 1 (by omega)
                  obtain ⟨v2, u2⟩ := hcur 2 (by omega)
                  obtain ⟨v3, u3⟩ := hcur 3 (by omega)
                  obtain ⟨v4, u4⟩ := hcur 4 (by omega)
                  obtain ⟨v5, u5⟩ := hcur 5 (by omega)
                  obtain ⟨v6, u6⟩ := hcur 6 (by omega)
                  obtain ⟨v7, u7⟩ := hcur 7 (by omega)
                  obtain ⟨v8, u8⟩ := hcur 8 (by omega)
                  have y0 := hfz (K.length * 9)
                  have y1 := hfz (K.length * 9 + 1)
                  have y2 := hfz (K.length * 9 + 2)
                  have y3 := hfz (K.length * 9 + 3)
                  have y4 := hfz (K.length * 9 + 4)
                  have y5 := hfz (K.length * 9 + 5)
                  have y6 := hfz (K.length * 9 + 6)
                  have y7 := hfz (K.length * 9 + 7)
                  have y8 := hfz (K.length * 9 + 8)
                  simp only [Nat.add_zero] at u0
                  have lb := HX7.out.lt
                  have n9 := nine_of HX7.out.blk
                  obtain ⟨_, z0, z1, z2, z3, z4, z5, z6, z7, z8⟩ := n9
                  simp only at z0 z1 z2 z3 z4 z5 z6 z7 z8
                  have hki0 : (0 : Int) ≤ (K.length : Int) := by omega
                  have hki1 : (K.length : Int) < (NN : Int) := by omega
                  clear hcur hfz hbq hNN hkvq hstq c0 c1 c2 c3 f1 f2 f3 f4
                  go_wp2_with fail
                  go_region
                  go_wp2_with fail
                  refine bodyPost_ret (v := .tuple #[]) (by simp [results, Tryz.results47, go_sem]) rfl ?_
                  have hst9 := HX7.out.st
                  rw [HKVQ.out] at hst9
                  obtain ⟨q1, q2⟩ := hst9.fill (y := ⟨{ s with body := n }, .slice AE nE cE, .slice AF nF cF⟩) HX7.out.re HX7.out.rf (p := K.length) rfl rfl rfl
                  rw [← HKVQ.out] at q1
                  have q3 := q1.on (below_dr _)
                  rw [List.append_assoc] at q3
                  refine ⟨rfl, [⟨{ s with body := n }, .slice AE nE cE, .slice AF nF cF⟩] ++ K2, _, ?_, ?_, HO5.out, ?_⟩
                  · rw [HRU.out]; exact q3
                  · intro o j e
                    obtain ⟨s1, j0, b1, g1, g2, g3⟩ := HRO.out o j e
                    obtain ⟨g4, g5⟩ := HV5.out b1 j g2
                    have g6 := HG.out
                    rw [g1] at g6
                    have g7 : s = s1 := g6
                    obtain ⟨g8, _⟩ := plain_els g1
                    rw [g3, List.map_append, g5, g4, g7]
                    obtain ⟨a1, a2, a3, a4, a5, a6, a7, a8, a9⟩ := s1
                    simp only at g8
                    subst g8
                    simp [Bk.flat]
                  · exact (HK7.out.trans q2 (R := Mine g kv) (fun _ _ h => h) (fun q hq e => Mine.onward HO5.out q hq (.inr (by rw [HKVQ.out, e]; rfl)))).trans (KeepP.of (P := fun _ => False) (below_dr _)) (fun _ _ h => h) (fun _ _ h => h.elim)
                case inl =>
                  have hv := HV.out
                  simp only [show blkK ((11 : Nat) : Int) from .inl rfl, not_true_eq_false, if_false, show inL 11 l = l from rfl] at hv
                  have hbeg : Begins L (plainP L 11 pv i1).unit (K ++ [x0]) := begins_plain HAH.out hmi x0
                  have HBEG := Lib.hid hbeg
                  have HBW : Hid (w.heap.size ≤ b) := HW
                  have hw2 : IntKind.i64.wrap ((d : Int) + 1) = (d : Int) + 1 := IntWalk.i64_in _ (by omega)
                  obtain ⟨r2, hr2, r3, hr3, hru, hro⟩ := one_if hv
                  have HR2 := Lib.hid hr2
                  have HR3 := Lib.hid hr3
                  have HRU := Lib.hid hru
                  have HRO := Lib.hid hro
                  have HCB := Lib.hid (begins_block (row := row) hra hrc (x0 := x0) (K := K) HBEG.out hr2)
                  clear hv hr2 hr3 hru hro hbeg
                  go_wp2_with fail
                  rw [show ((d : Int) + 1) = ((d + 1 : Nat) : Int) from by omega]
                  refine (HBL.out _ (d + 1) l _ _ _ r2 HX4.out.st HBEG.out (by omega) (by omega) HR2.out).mono ?_
                  rintro e5 w5 ⟨n, K2, kv2, rfl, hs5, hv5, ho5, hk5⟩
                  have HX5 := Lib.hid (HX4.out.go hs5 hk5 ho5)
                  have HV5 := Lib.hid hv5
                  have HO5 : Hid (Onward kv kv2 w) := Lib.hid (HO4.out.trans ho5 HK4.out.size)
                  have HK5 : Hid (KeepP (Mine g kv) w w5) := Lib.hid (HK4.out.trans hk5 (fun _ _ h => h) (fun q hq h => Mine.onward HO4.out q hq h))
                  have lb5 := HX5.out.lt
                  obtain ⟨_, _, _, _, _, _, _, zb, _, _⟩ := nine_of HX5.out.blk
                  have fzb := Lib.frozen_of_heap HX5.out.blk 6
                  clear hs5 hv5 ho5 hk5
                  go_upto_region 19 with (fail)
                  have HX6 : Hid (Dx L W0 g lv r2.unit (K ++ [x0] ++ K2) kv2 b ⟨{ s with body := n }, .slice AE nE cE, .slice AF nF cF⟩ (w5.setCell ⟨b, 6, none⟩ (.int .i64 n))) := Lib.hid (HX5.out.put (by rw [HX0.out]; rfl) (by rw [HX0.out]) (by rw [HX0.out]) (by rw [HX0.out]) (by rw [HX0.out]))
                  have HK6 : Hid (KeepP (Mine g kv) w (w5.setCell ⟨b, 6, none⟩ (.int .i64 n))) := Lib.hid (HK5.out.trans (KeepP.set (g := b)) (fun _ _ h => h) (fun k hk e => by have := HBW.out; omega))
                  generalize w5.setCell ⟨b, 6, none⟩ (.int .i64 n) = W6 at *
                  clear zb fzb lb5 HX5 HK5
                  cases r2 with
                  | bad e9 p9 =>
                    have HR3V : Hid (r3 = .bad e9 p9) := Lib.hid (Option.some.inj HR3.out).symm
                    obtain ⟨j9, _, ⟨hgl9, c0, c1, c2, c3, c4, f1, f2, f3, f4⟩, hne9⟩ := Sr.badc HX6.out.st
                    have hz9 : (e9 == 0) = false := by simp [hne9]
                    clear hne9
                    go_wp2_with fail
                    go_quiet (fail)
                    have hnq := below_drew1 W6 nq
                    have HX7 := Lib.hid (HX6.out.go (HX6.out.st.on hnq) (KeepP.of hnq) (Onward.refl _ _))
                    have HK7 : Hid (KeepP (Mine g kv) w _) := Lib.hid (HK6.out.trans (KeepP.of (P := fun _ => False) hnq) (fun _ _ h => h) (fun _ _ h => h.elim))
                    generalize W6.drewN nq = W7 at *
                    clear hnq c0 c1 c2 c3 c4 f1 f2 f3 f4 hgl9
                    obtain ⟨gq, capq, hkvq, hgq, hcur, hfz⟩ := HX7.out.st.nine (P := K) (Q := K2)
                    obtain ⟨NN, hNN⟩ : ∃ NN, (K ++ [x0] ++ K2).length = NN := ⟨_, rfl⟩
                    have HKVQ := Lib.hid hkvq
                    have hKN : K.length < NN := by rw [← hNN]; simp only [List.length_append, List.length_cons, List.length_nil]; omega
                    rw [hNN] at hkvq
                    obtain ⟨jq9, erq9, posq9, hbq, hstq⟩ := HX7.out.st.blk
                    rw [hkvq] at hbq
                    obtain ⟨hgl9, c0, c1, c2, c3, c4, f1, f2, f3, f4⟩ := p5d_of hbq
                    obtain ⟨v0, u0⟩ := hcur 0 (by omega)
                    obtain ⟨v1, u1⟩ := hcur 1 (by omega)
                    obtain ⟨v2, u2⟩ := hcur 2 (by omega)
                    obtain ⟨v3, u3⟩ := hcur 3 (by omega)
                    obtain ⟨v4, u4⟩ := hcur 4 (by omega)
                    obtain ⟨v5, u5⟩ := hcur 5 (by omega)
                    obtain ⟨v6, u6⟩ := hcur 6 (by omega)
                    obtain ⟨v7, u7⟩ := hcur 7 (by omega)
                    obtain ⟨v8, u8⟩ := hcur 8 (by omega)
                    have y0 := hfz (K.length * 9)
                    have y1 := hfz (K.length * 9 + 1)
                    have y2 := hfz (K.length * 9 + 2)
                    have y3 := hfz (K.length * 9 + 3)
                    have y4 := hfz (K.length * 9 + 4)
                    have y5 := hfz (K.length * 9 + 5)
                    have y6 := hfz (K.length * 9 + 6)
                    have y7 := hfz (K.length * 9 + 7)
                    have y8 := hfz (K.length * 9 + 8)
                    simp only [Nat.add_zero] at u0
                    have lb := HX7.out.lt
                    have n9 := nine_of HX7.out.blk
                    obtain ⟨_, z0, z1, z2, z3, z4, z5, z6, z7, z8⟩ := n9
                    simp only at z0 z1 z2 z3 z4 z5 z6 z7 z8
                    have hki0 : (0 : Int) ≤ (K.length : Int) := by omega
                    have hki1 : (K.length : Int) < (NN : Int) := by omega
                    clear hcur hfz hbq hNN hkvq hstq c0 c1 c2 c3 f1 f2 f3 f4
                    go_wp2_with fail
                    go_region
                    go_wp2_with fail
                    refine bodyPost_ret (v := .tuple #[]) (by simp [results, Tryz.results47, go_sem]) rfl ?_
                    have hst9 := HX7.out.st
                    rw [HKVQ.out] at hst9
                    obtain ⟨q1, q2⟩ := hst9.fill (y := ⟨{ s with body := n }, .slice AE nE cE, .slice AF nF cF⟩) HX7.out.re HX7.out.rf (p := K.length) rfl rfl rfl
                    rw [← HKVQ.out] at q1
                    have q3 := q1.on (below_dr _)
                    rw [List.append_assoc] at q3
                    refine ⟨rfl, [⟨{ s with body := n }, .slice AE nE cE, .slice AF nF cF⟩] ++ K2, _, ?_, ?_, HO5.out, ?_⟩
                    · rw [HRU.out, HR3V.out]; exact q3
                    · intro o j e
                      obtain ⟨s1, j0, b1, j1, e1, g1, g2, g3, g4⟩ := HRO.out o j e
                      cases g2
                    · exact (HK7.out.trans q2 (R := Mine g kv) (fun _ _ h => h) (fun q hq e => Mine.onward HO5.out q hq (.inr (by rw [HKVQ.out, e]; rfl)))).trans (KeepP.of (P := fun _ => False) (below_dr _)) (fun _ _ h => h) (fun _ _ h => h.elim)
                  | ok b9 j9 =>
                    obtain ⟨pos9, _, ⟨hgl9, c0, c1, c2, c3, c4, f1, f2, f3, f4⟩⟩ := Sr.okc HX6.out.st
                    cases hq : isB L j9 elseW with
                    | false =>
                      have HI := Lib.hid hq
                      have HR3V : Hid (r3 = .ok .nil j9) := Lib.hid (by
                        have h := HR3.out
                        simp only [RS.unit_ok, RS.obind_ok] at h
                        unfold elseW4 at h
                        rw [if_neg (by rw [hq]; simp)] at h
                        exact (Option.some.inj h).symm)
                      clear hq
                      go_wp2_with fail
                      go_region_held3 (fun w' => w'.cell? ⟨g, 0, none⟩ = some lv ∧ w'.cell? ⟨g, 1, none⟩ = some (.int .i64 j9) ∧ w'.cell? ⟨g, 2, none⟩ = some (.int .i64 0) ∧ Below W6.heap.size W6 w')
                        (first | exact ⟨c0, c1, c2, Below.refl _ _⟩ | exact ⟨c0, c1, c2, below_dr _⟩ | exact kept3d (w1 := W6.drew) hgl9 ⟨c0, c1, c2, below_dr _⟩ hb1)
                        (first | (go_at_call 44; refine (ris_at (s := elseW) HI.out lv _ ((HX6.out.st.on (below_dr _)).toks HC.out)).mono ?_; rintro e w1 ⟨rfl, hb1⟩))
                      have hnq := below_then (below_dr W6) hb1
                      have HX7 := Lib.hid (HX6.out.go (HX6.out.st.on hnq) (KeepP.of hnq) (Onward.refl _ _))
                      have HK7 : Hid (KeepP (Mine g kv) w _) := Lib.hid (HK6.out.trans (KeepP.of (P := fun _ => False) hnq) (fun _ _ h => h) (fun _ _ h => h.elim))
                      clear hnq hb1 c0 c1 c2 c3 c4 f1 f2 f3 f4 hgl9
                      obtain ⟨gq, capq, hkvq, hgq, hcur, hfz⟩ := HX7.out.st.nine (P := K) (Q := K2)
                      obtain ⟨NN, hNN⟩ : ∃ NN, (K ++ [x0] ++ K2).length = NN := ⟨_, rfl⟩
                      have HKVQ := Lib.hid hkvq
                      have hKN : K.length < NN := by rw [← hNN]; simp only [List.length_append, List.length_cons, List.length_nil]; omega
                      rw [hNN] at hkvq
                      obtain ⟨jq9, erq9, posq9, hbq, hstq⟩ := HX7.out.st.blk
                      rw [hkvq] at hbq
                      obtain ⟨hgl9, c0, c1, c2, c3, c4, f1, f2, f3, f4⟩ := p5d_of hbq
                      obtain ⟨v0, u0⟩ := hcur 0 (by omega)
                      obtain ⟨v1, u1⟩ := hcur 1 (by omega)
                      obtain ⟨v2, u2⟩ := hcur 2 (by omega)
                      obtain ⟨v3, u3⟩ := hcur 3 (by omega)
                      obtain ⟨v4, u4⟩ := hcur 4 (by omega)
                      obtain ⟨v5, u5⟩ := hcur 5 (by omega)
                      obtain ⟨v6, u6⟩ := hcur 6 (by omega)
                      obtain ⟨v7, u7⟩ := hcur 7 (by omega)
                      obtain ⟨v8, u8⟩ := hcur 8 (by omega)
                      have y0 := hfz (K.length * 9)
                      have y1 := hfz (K.length * 9 + 1)
                      have y2 := hfz (K.length * 9 + 2)
                      have y3 := hfz (K.length * 9 + 3)
                      have y4 := hfz (K.length * 9 + 4)
                      have y5 := hfz (K.length * 9 + 5)
                      have y6 := hfz (K.length * 9 + 6)
                      have y7 := hfz (K.length * 9 + 7)
                      have y8 := hfz (K.length * 9 + 8)
                      simp only [Nat.add_zero] at u0
                      have lb := HX7.out.lt
                      have n9 := nine_of HX7.out.blk
                      obtain ⟨_, z0, z1, z2, z3, z4, z5, z6, z7, z8⟩ := n9
                      simp only at z0 z1 z2 z3 z4 z5 z6 z7 z8
                      have hki0 : (0 : Int) ≤ (K.length : Int) := by omega
                      have hki1 : (K.length : Int) < (NN : Int) := by omega
                      clear hcur hfz hbq hNN hkvq hstq c0 c1 c2 c3 f1 f2 f3 f4
                      go_wp2_with fail
                      go_region
                      go_wp2_with fail
                      refine bodyPost_ret (v := .tuple #[]) (by simp [results, Tryz.results47, go_sem]) rfl ?_
                      have hst9 := HX7.out.st
                      rw [HKVQ.out] at hst9
                      obtain ⟨q1, q2⟩ := hst9.fill (y := ⟨{ s with body := n }, .slice AE nE cE, .slice AF nF cF⟩) HX7.out.re HX7.out.rf (p := K.length) rfl rfl rfl
                      rw [← HKVQ.out] at q1
                      have q3 := q1.on (below_dr _)
                      rw [List.append_assoc] at q3
                      refine ⟨rfl, [⟨{ s with body := n }, .slice AE nE cE, .slice AF nF cF⟩] ++ K2, _, ?_, ?_, HO5.out, ?_⟩
                      · rw [HRU.out, HR3V.out]; exact q3
                      · intro o j e
                        obtain ⟨s1, j0, b1, j1, e1, g1, g2, g3, g4⟩ := HRO.out o j e
                        rw [HR3V.out] at g3
                        simp only [RS.ok.injEq] at g2 g3
                        obtain ⟨rfl, rfl⟩ := g2
                        obtain ⟨rfl, rfl⟩ := g3
                        obtain ⟨g5, g6⟩ := HV5.out b9 j9 rfl
                        have g7 := HG.out
                        rw [g1] at g7
                        have g8 : s = s1 := g7
                        obtain ⟨g9, _⟩ := plain_els g1
                        rw [g4, List.map_append, g6, g5, g8]
                        obtain ⟨a1, a2, a3, a4, a5, a6, a7, a8, a9⟩ := s1
                        simp only at g9
                        subst g9
                        simp [Bk.flat, Bk.count]
                      · exact (HK7.out.trans q2 (R := Mine g kv) (fun _ _ h => h) (fun q hq e => Mine.onward HO5.out q hq (.inr (by rw [HKVQ.out, e]; rfl)))).trans (KeepP.of (P := fun _ => False) (below_dr _)) (fun _ _ h => h) (fun _ _ h => h.elim)
                    | true =>
                      have HI := Lib.hid hq
                      have hil9 := isB_lt hq
                      have HR3V : Hid (RS.obind (some (.ok () (j9 + 1))) (fun _ i => blockW row L i (d + 1) l) = some r3) := Lib.hid (by
                        have h := HR3.out
                        simp only [RS.unit_ok, RS.obind_ok] at h
                        unfold elseW4 at h
                        rw [if_pos ⟨rfl, hq⟩] at h
                        exact h)
                      clear hq
                      go_wp2_with fail
                      go_region_held3 (fun w' => w'.cell? ⟨g, 0, none⟩ = some lv ∧ w'.cell? ⟨g, 1, none⟩ = some (.int .i64 j9) ∧ w'.cell? ⟨g, 2, none⟩ = some (.int .i64 0) ∧ Below W6.heap.size W6 w')
                        (first | exact ⟨c0, c1, c2, Below.refl _ _⟩ | exact ⟨c0, c1, c2, below_dr _⟩ | exact kept3d (w1 := W6.drew) hgl9 ⟨c0, c1, c2, below_dr _⟩ hb1)
                        (first | (go_at_call 44; refine (ris_at (s := elseW) HI.out lv _ ((HX6.out.st.on (below_dr _)).toks HC.out)).mono ?_; rintro e w1 ⟨rfl, hb1⟩))
                      have hnq := below_then (below_dr W6) hb1
                      have HX7 := Lib.hid (HX6.out.go (HX6.out.st.on hnq) (KeepP.of hnq) (Onward.refl _ _))
                      have HK7 : Hid (KeepP (Mine g kv) w _) := Lib.hid (HK6.out.trans (KeepP.of (P := fun _ => False) hnq) (fun _ _ h => h) (fun _ _ h => h.elim))
                      clear hnq hb1 c0 c1 c2 c3 c4 f1 f2 f3 f4 hgl9
                      obtain ⟨pos8, _, ⟨hgl8, c0, c1, c2, c3, c4, f1, f2, f3, f4⟩⟩ := Sr.okc HX7.out.st
                      have hw1 : IntKind.i64.wrap ((j9 : Int) + 1) = (j9 : Int) + 1 := IntWalk.i64_in _ (by omega)
                      go_wp2_with fail
                      rw [show ((j9 : Int) + 1) = ((j9 + 1 : Nat) : Int) from by omega]
                      have hs8 : Sr L W0 g lv (.ok () (j9 + 1)) (K ++ [x0] ++ K2) kv2 (w1.setCell ⟨g, 1, none⟩ (.int .i64 ((j9 + 1 : Nat) : Int))) := Sr.set1 HX7.out.st
                      have HX8 := Lib.hid (HX7.out.gog hs8 KeepP.set)
                      have HK8 : Hid (KeepP (Mine g kv) w (w1.setCell ⟨g, 1, none⟩ (.int .i64 ((j9 + 1 : Nat) : Int)))) := Lib.hid (HK7.out.trans KeepP.set (fun _ _ h => h) (fun _ _ h => .inl h))
                      generalize w1.setCell ⟨g, 1, none⟩ (.int .i64 ((j9 + 1 : Nat) : Int)) = W8 at *
                      clear c0 c1 c2 c3 c4 f1 f2 f3 f4 hgl8 hs8 hw1
                      first | rw [show ((d : Int) + 1) = ((d + 1 : Nat) : Int) from by omega] | skip
                      refine (HBL.out _ (d + 1) l _ _ _ r3 HX8.out.st (HCB.out b9 j9 rfl K2 (HV5.out b9 j9 rfl).2 hil9) (by omega) (by omega) HR3V.out).mono ?_
                      rintro e6 w6 ⟨n3, K3, kv3, rfl, hs6, hv6, ho6, hk6⟩
                      have HX9 := Lib.hid (HX8.out.go hs6 hk6 ho6)
                      have HV6 := Lib.hid hv6
                      have HO6 : Hid (Onward kv kv3 w) := Lib.hid (HO5.out.trans ho6 HK8.out.size)
                      have HK9 : Hid (KeepP (Mine g kv) w w6) := Lib.hid (HK8.out.trans hk6 (fun _ _ h => h) (fun q hq h => Mine.onward HO5.out q hq h))
                      have lb6 := HX9.out.lt
                      obtain ⟨_, _, _, _, _, _, _, _, zc, _⟩ := nine_of HX9.out.blk
                      have fzc := Lib.frozen_of_heap HX9.out.blk 7
                      clear hs6 hv6 ho6 hk6
                      go_upto_region 22 with (fail)
                      have HXA : Hid (Dx L W0 g lv r3.unit (K ++ [x0] ++ (K2 ++ K3)) kv3 b ⟨{ s with body := n, els := n3 }, .slice AE nE cE, .slice AF nF cF⟩ (w6.setCell ⟨b, 7, none⟩ (.int .i64 n3))) := Lib.hid (by rw [← List.append_assoc]; exact HX9.out.put rfl rfl rfl rfl rfl)
                      have HKA2 : Hid (KeepP (Mine g kv) w (w6.setCell ⟨b, 7, none⟩ (.int .i64 n3))) := Lib.hid (HK9.out.trans (KeepP.set (g := b)) (fun _ _ h => h) (fun k hk e => by have := HBW.out; omega))
                      generalize w6.setCell ⟨b, 7, none⟩ (.int .i64 n3) = WA at *
                      clear zc fzc lb6 HX9 HK9
                      obtain ⟨gq, capq, hkvq, hgq, hcur, hfz⟩ := HXA.out.st.nine (P := K) (Q := (K2 ++ K3))
                      obtain ⟨NN, hNN⟩ : ∃ NN, (K ++ [x0] ++ (K2 ++ K3)).length = NN := ⟨_, rfl⟩
                      have HKVQ := Lib.hid hkvq
                      have hKN : K.length < NN := by rw [← hNN]; simp only [List.length_append, List.length_cons, List.length_nil]; omega
                      rw [hNN] at hkvq
                      obtain ⟨jq9, erq9, posq9, hbq, hstq⟩ := HXA.out.st.blk
                      rw [hkvq] at hbq
                      obtain ⟨hgl9, c0, c1, c2, c3, c4, f1, f2, f3, f4⟩ := p5d_of hbq
                      obtain ⟨v0, u0⟩ := hcur 0 (by omega)
                      obtain ⟨v1, u1⟩ := hcur 1 (by omega)
                      obtain ⟨v2, u2⟩ := hcur 2 (by omega)
                      obtain ⟨v3, u3⟩ := hcur 3 (by omega)
                      obtain ⟨v4, u4⟩ := hcur 4 (by omega)
                      obtain ⟨v5, u5⟩ := hcur 5 (by omega)
                      obtain ⟨v6, u6⟩ := hcur 6 (by omega)
                      obtain ⟨v7, u7⟩ := hcur 7 (by omega)
                      obtain ⟨v8, u8⟩ := hcur 8 (by omega)
                      have y0 := hfz (K.length * 9)
                      have y1 := hfz (K.length * 9 + 1)
                      have y2 := hfz (K.length * 9 + 2)
                      have y3 := hfz (K.length * 9 + 3)
                      have y4 := hfz (K.length * 9 + 4)
                      have y5 := hfz (K.length * 9 + 5)
                      have y6 := hfz (K.length * 9 + 6)
                      have y7 := hfz (K.length * 9 + 7)
                      have y8 := hfz (K.length * 9 + 8)
                      simp only [Nat.add_zero] at u0
                      have lb := HXA.out.lt
                      have n9 := nine_of HXA.out.blk
                      obtain ⟨_, z0, z1, z2, z3, z4, z5, z6, z7, z8⟩ := n9
                      simp only at z0 z1 z2 z3 z4 z5 z6 z7 z8
                      have hki0 : (0 : Int) ≤ (K.length : Int) := by omega
                      have hki1 : (K.length : Int) < (NN : Int) := by omega
                      clear hcur hfz hbq hNN hkvq hstq c0 c1 c2 c3 f1 f2 f3 f4
                      go_wp2_with fail
                      go_region
                      go_wp2_with fail
                      refine bodyPost_ret (v := .tuple #[]) (by simp [results, Tryz.results47, go_sem]) rfl ?_
                      have hst9 := HXA.out.st
                      rw [HKVQ.out] at hst9
                      obtain ⟨q1, q2⟩ := hst9.fill (y := ⟨{ s with body := n, els := n3 }, .slice AE nE cE, .slice AF nF cF⟩) HXA.out.re HXA.out.rf (p := K.length) rfl rfl rfl
                      rw [← HKVQ.out] at q1
                      have q3 := q1.on (below_dr _)
                      rw [List.append_assoc] at q3
                      refine ⟨rfl, [⟨{ s with body := n, els := n3 }, .slice AE nE cE, .slice AF nF cF⟩] ++ (K2 ++ K3), _, ?_, ?_, HO6.out, ?_⟩
                      · rw [HRU.out]; exact q3
                      · intro o j e
                        obtain ⟨s1, j0, b1, j1, e1, g1, g2, g3, g4⟩ := HRO.out o j e
                        simp only [RS.ok.injEq] at g2
                        obtain ⟨rfl, rfl⟩ := g2
                        obtain ⟨g5, g6⟩ := HV5.out b9 j9 rfl
                        obtain ⟨h5, h6⟩ := HV6.out e1 j g3
                        have g7 := HG.out
                        rw [g1] at g7
                        have g8 : s = s1 := g7
                        rw [g4, List.map_append, List.map_append, g6, h6, g5, h5, g8]
                        simp
                      · exact (HKA2.out.trans q2 (R := Mine g kv) (fun _ _ h => h) (fun q hq e => Mine.onward HO6.out q hq (.inr (by rw [HKVQ.out, e]; rfl)))).trans (KeepP.of (P := fun _ => False) (below_dr _)) (fun _ _ h => h) (fun _ _ h => h.elim)
end
end Go.Proofs.YtpeohfgadnfnpaaGreatDoor
