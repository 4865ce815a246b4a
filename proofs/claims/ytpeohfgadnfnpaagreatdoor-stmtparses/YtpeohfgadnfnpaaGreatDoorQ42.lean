/-
  DERIVED. Layer 3: the document's Floor (leadlineref03): its loop.
-/
import Derived.Test.YtpeohfgadnfnpaaGreatDoorQ41
namespace Go.Proofs.YtpeohfgadnfnpaaGreatDoor
open Go.RowKit

/-- A new slice of so many numbers, one of which is known. -/
def SaysLen (m : Nat) (w : World) (e : Ending) (w' : World) : Prop := ∃ g, e = .returned (.slice (some ⟨g, 0, none⟩) m m) ∧ Below w.heap.size w w'
def SaysOp (m q : Nat) (op : Int) (w : World) (e : Ending) (w' : World) : Prop := ∃ g, e = .returned (.slice (some ⟨g, 0, none⟩) m m) ∧ g < w'.heap.size ∧ w'.cell? ⟨g, q, none⟩ = some (.int .i64 op) ∧ Below w.heap.size w w'
theorem rfloor_len {n m : Nat} (hn : n < 5) (hm : (floorOps n).length = m) (w : World) : Calls Tryz.prog 146 #[.int .i64 n] w (SaysLen m w) := by
  subst hm
  refine (rfloor_any n hn w).mono ?_
  rintro e w' ⟨g, he, _, _, _, hb⟩
  exact ⟨g, he, hb⟩
theorem rfloor_op {n m q : Nat} {op : Int} (hn : n < 5) (hm : (floorOps n).length = m) (hq : (floorOps n)[q]? = some op) (w : World) : Calls Tryz.prog 146 #[.int .i64 n] w (SaysOp m q op w) := by
  subst hm
  refine (rfloor_any n hn w).mono ?_
  rintro e w' ⟨g, he, _, hg, hc, hb⟩
  exact ⟨g, he, hg, hc q op hq, hb⟩
theorem lastOp_succ {L : List Tok} {tu q : Nat} {l : List Int} {op : Int} (hq : l[q]? = some op) : lastOp L tu (l.take (q + 1)) = if isB L tu (signT op.toNat) = true then op else lastOp L tu (l.take q) := by
  unfold lastOp
  rw [List.take_add_one, hq, List.foldl_append]; rfl
theorem floor_len (n : Nat) : (floorOps n).length ≤ 4 := by
  match n with
  | 0 | 1 | 2 | 3 | 4 => decide
  | n + 5 => exact Nat.zero_le _
theorem rsign_at {op : Int} {s : List UInt8} (hs : signT op.toNat = s) (h0 : 3 ≤ op) (h1 : op ≤ 15) (w : World) : Calls Tryz.prog 139 #[.int .i64 op] w (GivesSB s w) := by
  subst hs; exact rsign3_any op h0 h1 w
/-- Where the left part ends, read off its box. -/
def boxTo (g : Nat) (w : World) : Nat := match w.cell? ⟨g, 1, none⟩ with
  | some (.int _ z) => z.toNat
  | _ => 0
theorem boxTo_of {w : World} {g tu : Nat} {a c d : Value} (h : Pq w g a (.int .i64 (tu : Int)) c d) : boxTo g w = tu := by
  unfold boxTo; rw [h.c1]; simp
/-- How the loop stands at a round's head. -/
def FloorI (L : List Tok) (f n i d : Nat) (R : Res) (w : World) (xb : Nat) (wr : World) : Prop :=
  ∃ (A : Option Addr) (n1 c1 f' : Nat) (x : Ex) (tu : Nat), f' ≤ f ∧ Pq wr xb (.slice A n1 c1) (.int .i64 (tu : Int)) (.int .i64 0) (.int .i64 0) ∧ OwnN wr (w.heap.size + 1) (.slice A n1 c1) x.flat ∧ (∀ q, (Value.slice A n1 c1).ownBlock = some q → q ≠ xb) ∧
    Pq wr w.heap.size (.slice none 0 0) (.int .i64 0) (.int .i64 0) (.int .i64 0) ∧ Below w.heap.size w wr ∧ FineL L i x tu ∧ loopF L f' (n + 1) x tu d = some R
theorem kept_to {W w1 w2 : World} {a : Nat} {x : Value} (ha : a < W.heap.size) (h : w1.cell? ⟨a, 1, none⟩ = some x ∧ Below W.heap.size W w1) (hb : Below w1.heap.size w1 w2) : w2.cell? ⟨a, 1, none⟩ = some x ∧ Below W.heap.size W w2 := by
  have hz := h.2.size
  exact ⟨(hb.cell (p := ⟨a, 1, none⟩) (by show a < _; omega)).trans h.1, below_then h.2 hb⟩

theorem Pq.keep {g b : Nat} {w w' : World} {x y z t : Value} (h : Pq w b x y z t) (hb : b ≠ g) (hk : Keeps g w w') : Pq w' b x y z t :=
  ⟨Nat.lt_of_lt_of_le h.lt hk.size, (hk.cell h.lt hb).trans h.c0, (hk.cell h.lt hb).trans h.c1, (hk.cell h.lt hb).trans h.c2, (hk.cell h.lt hb).trans h.c3, (hk.frozen h.lt hb).trans h.f0, (hk.frozen h.lt hb).trans h.f1, (hk.frozen h.lt hb).trans h.f2, (hk.frozen h.lt hb).trans h.f3⟩
theorem keeps_grown {w w' : World} {g : Nat} (h : w.grownBy w' (some g)) : Keeps g w w' := ⟨h.os, h.tape, h.output, h.size, fun k hk hg => h.block k hk (by simpa using hg)⟩
/-- What comes behind a second operand. -/
def NextF (L : List Tok) (f n i d : Nat) (a : Nod) (x : Ex) (R : Res) : Res → Prop
  | .bad e j => R = .bad e j
  | .ok y tu => (n = 2 → R = .ok (.bin a x y) tu) ∧ (n ≠ 2 → FineL L i (.bin a x y) tu ∧ loopF L f (n + 1) (.bin a x y) tu d = some R)
/-- A box of four cells that has been filled; all else stays. -/
theorem filled4 {w : World} {b : Nat} {x y z t : Value} (h : Pq w b x y z t) (x' y' z' t' : Value) : ∃ w', w' = (((w.setCell ⟨b, 0, none⟩ x').setCell ⟨b, 1, none⟩ y').setCell ⟨b, 2, none⟩ z').setCell ⟨b, 3, none⟩ t' ∧ Pq w' b x' y' z' t' ∧ Keeps b w w' ∧ w.heap.size = w'.heap.size :=
  ⟨_, rfl, h.set x' y' z' t', ((((Keeps.refl _ _).set).set).set).set, by simp⟩

set_option maxRecDepth 100000 in
set_option maxHeartbeats 8000000 in
theorem floor_loop (L : List Tok) (f n i d : Nat) (hf : ∀ f', f' ≤ f → FloorSays L f') (x : Ex) (tu : Nat) (R : Res) (v : Value) (w : World) (hl : L.length ≤ 10000) (hn : n < 5) (hd : d ≤ 12) (hr : chainF L f (n + 1 + 1) i d = some (.ok x tu)) (hR : loopF L f (n + 1) x tu d = some R) (h : ReadT w v L) :
    Calls Tryz.prog 140 #[v, .int .i64 i, .int .i64 d, .int .i64 n] w (RGives L R w) := by
  have HR := Lib.hid h
  have HF := Lib.hid hf
  have HR1 := Lib.hid hr
  have HRL := Lib.hid hR
  have HFI := Lib.hid (show FineL L i x tu from (fine_all L f).1 _ _ _ _ (by omega) (by omega) hr)
  have HB0 := Lib.hid ((Below.refl w.heap.size w).alloc (Nat.le_refl _) (.cells #[.slice none 0 0, .int .i64 0, .int .i64 0, .int .i64 0] 160))
  have HP0 := Lib.hid (pq_new w (.slice none 0 0) (.int .i64 0) (.int .i64 0) (.int .i64 0) 160)
  have f5 : ((n : Int) == 5) = false := beq_eq_false_iff_ne.2 (by omega)
  obtain ⟨A, c, rfl, hc, _⟩ := h
  obtain ⟨m, hm⟩ : ∃ m, (floorOps n).length = m := ⟨_, rfl⟩
  have hm4 : m ≤ 4 := by have := floor_len n; omega
  have HM := Lib.hid hm
  obtain ⟨i0, hi0, hz0, hz1, hz2⟩ := info_parts info30
  have HZ := Lib.hid (show Tryz.prog.info? 33 = some i0 ∧ i0.zero = some (.agg #[.int .i64 0, .int .i64 0, .string ⟨#[]⟩, .int .i64 0]) ∧ i0.size = 4 ∧ i0.bytes = 40 from ⟨hi0, hz0, hz1, hz2⟩)
  clear hf hr hR hm hi0 hz0 hz1 hz2
  go_enter Tryz.func140, Tryz.ntmps140
  go_wp2_with fail
  refine (HF.out f (Nat.le_refl _) (n + 1) i d (.ok x tu) _ _ (by omega) hd HR1.out (HR.out.on HB0.out)).mono ?_
  rintro e w1 ⟨A1, n1, c1, rfl, ho, hb⟩
  have hWl := HP0.out.lt
  have HO : Hid (OwnN w1 (w.heap.size + 1) (.slice A1 n1 c1) x.flat) := Lib.hid (ho.base hWl)
  replace HB0 := Lib.hid (below_then HB0.out hb)
  replace HP0 := Lib.hid (HP0.out.on hb)
  clear hb ho hWl
  simp only [toOf, errOf, plOf] at *
  go_wp2_with fail
  have hbx := (Below.refl w1.heap.size w1).alloc (Nat.le_refl _) (.cells #[.slice A1 n1 c1, .int .i64 (tu : Int), .int .i64 0, .int .i64 0] 160)
  have hI0 : FloorI L f n i d R w w1.heap.size (w1.alloc (.cells #[.slice A1 n1 c1, .int .i64 (tu : Int), .int .i64 0, .int .i64 0] 160)) :=
    ⟨A1, n1, c1, f, x, tu, Nat.le_refl _, pq_new w1 _ _ _ _ 160, HO.out.on hbx, fun q hq => by have := (ownN_block HO.out q hq).2; omega, HP0.out.on hbx, below_then HB0.out hbx, HFI.out, HRL.out⟩
  have HI0 := Lib.hid hI0
  have hxb := HP0.out.lt
  clear hI0 hbx HO HB0 HP0 HRL HFI HR1
  generalize hxe : w1.heap.size = xb at *
  clear hxe
  generalize w1.alloc (.cells #[.slice A1 n1 c1, .int .i64 (tu : Int), .int .i64 0, .int .i64 0] 160) = X0 at *
  go_loopw [10] (fun _ wr => FloorI L f n i d R w xb wr) (fun _ wr => L.length - boxTo xb wr)
  case atStart => exact HI0.out
  case round =>
    obtain ⟨A1, n1, c1, f', x, tu, hf', hpx, hown, hox, hpr, hbel, hfl, hloop⟩ := hrel
    have HPX := Lib.hid hpx
    have HO := Lib.hid hown
    have HOX := Lib.hid hox
    have HPR := Lib.hid hpr
    have HB := Lib.hid hbel
    have HFL := Lib.hid hfl
    clear hown hox hpr hbel HI0
    obtain ⟨wo, hwo⟩ : ∃ y : World, y = wr := ⟨_, rfl⟩
    subst hwo
    have hto : i < tu ∧ tu ≤ L.length := ⟨hfl.1, hfl.2.1⟩
    have HLP := Lib.hid hloop
    clear hfl hloop
    have hxl := hpx.lt
    obtain ⟨z0, z1, z2, z3, z4, z5, z6, z7, z8⟩ := hpx
    go_wp2_with fail
    clear z0 z1 z2 z3 z4 z5 z6 z7 z8
    go_loopw [10, 11] (fun o k wq => ∃ q : Nat, q ≤ m ∧ k = .int .i64 q ∧ o = .int .i64 (lastOp L tu ((floorOps n).take q)) ∧ Below wo.heap.size wo wq) (fun _ k _ => m - (intOf k).toNat)
    case atStart => exact ⟨0, Nat.zero_le _, rfl, rfl, Below.refl _ _⟩
    case round =>
      obtain ⟨q, hq, rfl, rfl, hbq⟩ := hrel
      have HBQ := Lib.hid hbq
      clear hbq
      by_cases hlt : q < m
      · have hat : (floorOps n)[q]? = some ((floorOps n)[q]'(by have := HM.out; omega)) := List.getElem?_eq_getElem _
        generalize (floorOps n)[q]'(by have := HM.out; omega) = op at *
        have hop := floor_binds ⟨n, hn⟩ op (List.mem_of_getElem? hat)
        have ho3 : 3 ≤ op ∧ op ≤ 15 := ⟨hop.1, hop.2.1⟩
        have HS := Lib.hid (lastOp_succ (L := L) (tu := tu) hat)
        have HAT := Lib.hid hat
        clear hat hop
        generalize hsg : signT op.toNat = sg at *
        have HSG := Lib.hid hsg
        clear hsg
        generalize hlo : lastOp L tu ((floorOps n).take q) = lo at *
        clear hlo
        have hqi : (q : Int) < (m : Int) := by omega
        go_wp2_with fail
        refine (rfloor_len hn HM.out _).mono ?_
        rintro e wa ⟨g0, rfl, hb⟩
        replace HBQ := Lib.hid (below_then HBQ.out hb)
        clear hb
        go_wp2_with fail
        have hcx := (HPX.out.on HBQ.out).c1
        have hcl := (HPX.out.on HBQ.out).lt
        have hi0' : (0 : Int) ≤ (q : Int) := by omega
        obtain ⟨bb, hit⟩ : ∃ bb, isB L tu sg = bb := ⟨_, rfl⟩
        have HIT := Lib.hid hit
        have HS2 : Hid (lastOp L tu ((floorOps n).take (q + 1)) = if bb = true then op else lo) := Lib.hid (by rw [HS.out, hit])
        clear hit
        go_region_with (first
          | (go_at_call 44; refine (ris_at HIT.out _ _ (HR.out.on (below_then HB.out (below_then HBQ.out (below_then (below_then (below_dr _) hb1) hb2))))).mono ?_; rintro e w3 ⟨rfl, hb3⟩)
          | (go_at_call 139; refine (rsign_at HSG.out ho3.1 ho3.2 _).mono ?_; rintro e w2 ⟨rfl, hb2⟩; have hcx2 := (hb2.cell (p := ⟨xb, 1, none⟩) (Nat.lt_of_lt_of_le hcl hb1.size)).trans hcx1)
          | (go_at_call 146; refine (rfloor_op hn HM.out HAT.out _).mono ?_; rintro e w1' ⟨g1, rfl, hg1, hc1, hb1⟩; have hcx1 := (hb1.cell (p := ⟨xb, 1, none⟩) hcl).trans hcx))
        all_goals
          have HBZ := Lib.hid (below_then HBQ.out (below_then (below_dr _) (below_then hb1 (below_then hb2 hb3))))
          clear hb1 hb2 hb3 hcx hcx1 hcx2 hc1 hg1
          cases bb with
          | true =>
            go_wp2_with fail
            refine (rfloor_op hn HM.out HAT.out _).mono ?_
            rintro e w4 ⟨g4, rfl, hg4, hc4, hb4⟩
            replace HBZ := Lib.hid (below_then HBZ.out hb4)
            clear hb4
            go_wp2_with fail
            go_roundw
            case rel => exact ⟨q + 1, by omega, by go_num, by rw [HS2.out]; rfl, HBZ.out⟩
            case measure => simp [intOf]; omega
          | false =>
            go_wp2_with fail
            go_roundw
            case rel => exact ⟨q + 1, by omega, by go_num, by rw [HS2.out]; rfl, HBZ.out⟩
            case measure => simp [intOf]; omega
      · obtain rfl : q = m := by omega
        have HTO : Hid (lastOp L tu ((floorOps n).take q) = (signAt L (n + 1) tu : Nat)) := Lib.hid (by rw [List.take_of_length_le (by rw [HM.out]; exact Nat.le_refl _), last_sign hn])
        rw [HTO.out]
        have hqi : ¬ (q : Int) < (q : Int) := by omega
        have hloop := HLP.out
        cases f' with
        | zero => simp [loopF] at hloop
        | succ f' =>
          by_cases hsg : signAt L (n + 1) tu = 0
          · have hRe : R = .ok x tu := by
              rw [loopF, if_pos hsg] at hloop
              exact (Option.some.inj hloop).symm
            subst hRe
            rw [hsg]
            clear hloop hsg HTO HLP
            go_wp2_with fail
            refine (rfloor_len hn HM.out _).mono ?_
            rintro e wa ⟨g0, rfl, hb⟩
            replace HBQ := Lib.hid (below_then HBQ.out hb)
            clear hb
            obtain ⟨z0, z1, z2, z3, z4, z5, z6, z7, z8⟩ := HPX.out.on HBQ.out
            obtain ⟨p0, p1, p2, p3, p4, p5, p6, p7, p8⟩ := HPR.out.on HBQ.out
            go_wp2_with fail
            refine bodyPost_ret (v := .agg #[.slice A1 n1 c1, .int .i64 (tu : Int), .int .i64 0, .int .i64 0]) (by simp [results, Tryz.results140, go_sem, *]) rfl ?_
            exact rgives_box (r := .ok x tu) (HO.out.on HBQ.out) (below_then HB.out HBQ.out) rfl rfl rfl _ _ _ _
          · have hlt := signAt_lt hsg
            rw [loopF, if_neg hsg] at hloop
            cases hch : chainF L f' (n + 1 + 1) (tu + 1) d with
            | none => rw [hch] at hloop; cases hloop
            | some r2 =>
              have hfine2 := (fine_all L f').1 _ _ _ _ (by omega) (by omega) hch
              have HF2 := Lib.hid hfine2
              obtain ⟨k, hk⟩ : ∃ k, signAt L (n + 1) tu = k := ⟨_, rfl⟩
              have hk0 : ((k : Int) == 0) = false := beq_eq_false_iff_ne.2 (by omega)
              have hat : L[tu]? = some L[tu] := List.getElem?_eq_getElem hlt
              generalize L[tu] = t at *
              have hsn : signN L (n + 1) tu = ⟨k, 0, [], t.pl⟩ := by unfold signN plAt; rw [hk, hat]
              have HNXT : Hid (NextF L f' n i d ⟨k, 0, [], t.pl⟩ x R r2) := Lib.hid (by
                rw [hch, hsn] at hloop
                cases r2 with
                | ok y to2 =>
                  simp only at hloop
                  have hxy := fine_bin (by omega) (by omega) hsg HFL.out hfine2
                  rw [hsn] at hxy
                  refine ⟨fun h3 => ?_, fun h3 => ?_⟩
                  · rw [if_pos (by omega)] at hloop; exact (Option.some.inj hloop).symm
                  · rw [if_neg (by omega)] at hloop
                    exact ⟨hxy, hloop⟩
                | bad e j =>
                  simp only at hloop
                  exact (show R = .bad e j from (Option.some.inj hloop).symm))
              have HCH := Lib.hid hch
              have HAT := Lib.hid hat
              have HK := Lib.hid hk
              rw [HK.out]
              clear hloop hsg hch hfine2 hk hat hsn HTO HLP
              go_wp2_with fail
              refine (rfloor_len hn HM.out _).mono ?_
              rintro e wa ⟨g0, rfl, hb⟩
              replace HBQ := Lib.hid (below_then HBQ.out hb)
              clear hb
              have hpx := HPX.out.on HBQ.out
              have HPXa := Lib.hid hpx
              have HPRa := Lib.hid (HPR.out.on HBQ.out)
              have HOa := Lib.hid (HO.out.on HBQ.out)
              have HBa := Lib.hid (below_then HB.out HBQ.out)
              have hla := HPR.out.lt
              have hza := HBQ.out.size
              obtain ⟨z0, z1, z2, z3, z4, z5, z6, z7, z8⟩ := hpx
              go_wp2_with fail
              refine (HF.out f' (by omega) (n + 1) (tu + 1) d r2 _ _ (by omega) hd HCH.out (HR.out.on HBa.out)).mono ?_
              rintro e w5 ⟨A2, n2, c2, rfl, ho2, hb⟩
              have HO2 : Hid (OwnN w5 (w.heap.size + 1) (.slice A2 n2 c2) (nodesOf r2)) := Lib.hid (ho2.base (by omega))
              have HPX5 := Lib.hid (HPXa.out.on hb)
              have HPR5 := Lib.hid (HPRa.out.on hb)
              have HO5 := Lib.hid (HOa.out.on hb)
              have HB5 := Lib.hid (below_then HBa.out hb)
              clear hb ho2 z0 z1 z2 z3 z4 z5 z6 z7 z8 HPXa HPRa HOa HBa
              cases r2 with
              | bad er j =>
                have HRE : Hid (R = .bad er j) := Lib.hid HNXT.out
                have her := fine_err HF2.out
                generalize hpl : plOf L (.bad er j) = pl at *
                have HPLE := Lib.hid hpl
                clear hpl
                simp only [toOf, errOf] at *
                go_upto_region 14 with (fail)
                have hbx := (Below.refl w5.heap.size w5).alloc (Nat.le_refl _) (.cells #[.slice A2 n2 c2, .int .i64 ((0 : Nat) : Int), .int .i64 er, .int .i64 pl] 160)
                have HPY := Lib.hid (pq_new w5 (.slice A2 n2 c2) (.int .i64 ((0 : Nat) : Int)) (.int .i64 er) (.int .i64 pl) 160)
                have HPRY := Lib.hid (HPR5.out.on hbx)
                have HOY := Lib.hid (HO2.out.on hbx)
                have HBY := Lib.hid (below_then HB5.out hbx)
                clear hbx
                generalize w5.alloc (.cells #[.slice A2 n2 c2, .int .i64 ((0 : Nat) : Int), .int .i64 er, .int .i64 pl] 160) = Y at *
                obtain ⟨p0, p1, p2, p3, p4, p5, p6, p7, p8⟩ := HPRY.out
                obtain ⟨z0, z1, z2, z3, z4, z5, z6, z7, z8⟩ := HPY.out
                go_wp2_with fail
                refine bodyPost_ret (v := .agg #[.slice A2 n2 c2, .int .i64 ((0 : Nat) : Int), .int .i64 er, .int .i64 pl]) (by simp [results, Tryz.results140, go_sem, *]) rfl ?_
                rw [HRE.out]
                exact rgives_box (r := .bad er j) HOY.out HBY.out rfl rfl HPLE.out.symm _ _ _ _
              | ok y to2 =>
                obtain ⟨gy1, gy2, _, gy3, _⟩ := HF2.out
                obtain ⟨_, _, _, gx3, _⟩ := HFL.out
                have ho2' : OwnN w5 (w.heap.size + 1) (.slice A2 n2 c2) y.flat := HO2.out
                have hn2 := ho2'.read.len.1
                have hn1 := HO5.out.read.len.1
                have hyl := flat_len y
                have hxl2 := flat_len x
                have hyp := size_pos y
                have hxp := size_pos x
                obtain ⟨g2, cap2, hsl⟩ := ownN_form ho2' (by omega)
                simp only [Value.slice.injEq] at hsl
                obtain ⟨rfl, hdrop, rfl⟩ := hsl
                clear hdrop
                obtain ⟨gx, capx, hsl⟩ := ownN_form HO5.out (by omega)
                simp only [Value.slice.injEq] at hsl
                obtain ⟨rfl, hdrop, rfl⟩ := hsl
                clear hdrop
                have hgx := ownN_block HO5.out gx rfl
                have hg2 := ownN_block ho2' g2 rfl
                have hgxx := HOX.out gx rfl
                have hb1 : n1 ≤ 10000 := by omega
                have hb2 : n2 ≤ 10000 := by omega
                have HN1 := Lib.hid hn1
                have HN2 := Lib.hid hn2
                replace HO2 := Lib.hid ho2'
                clear hn1 hn2 ho2' hyl hxl2 hyp hxp
                simp only [toOf, errOf, plOf] at *
                go_upto_region 14 with (fail)
                have hbx := (Below.refl w5.heap.size w5).alloc (Nat.le_refl _) (.cells #[.slice (some ⟨g2, 0, none⟩) n2 c2, .int .i64 (to2 : Int), .int .i64 0, .int .i64 0] 160)
                have HPY := Lib.hid (pq_new w5 (.slice (some ⟨g2, 0, none⟩) n2 c2) (.int .i64 (to2 : Int)) (.int .i64 0) (.int .i64 0) 160)
                have HPRY := Lib.hid (HPR5.out.on hbx)
                have HPXY := Lib.hid (HPX5.out.on hbx)
                have HO2Y := Lib.hid (HO2.out.on hbx)
                have HO1Y := Lib.hid (HO5.out.on hbx)
                have HBY := Lib.hid (below_then HB5.out hbx)
                have HYZ : Hid ((w5.alloc (.cells #[.slice (some ⟨g2, 0, none⟩) n2 c2, .int .i64 (to2 : Int), .int .i64 0, .int .i64 0] 160)).heap.size = w5.heap.size + 1) := Lib.hid (by simp)
                clear hbx
                generalize w5.alloc (.cells #[.slice (some ⟨g2, 0, none⟩) n2 c2, .int .i64 (to2 : Int), .int .i64 0, .int .i64 0] 160) = Y at *
                obtain ⟨A', c', hv', _, hr'⟩ := HR.out.on HBY.out
                obtain ⟨b', hA', hbg', x0, x1, x2, x3⟩ := hr' tu t HAT.out
                subst hA'
                simp only [Value.slice.injEq] at hv'
                obtain ⟨rfl, hdrop, rfl⟩ := hv'
                clear hdrop hr' x0 x1 x2
                obtain ⟨y0, y1, y2, y3, y4, y5, y6, y7, y8⟩ := HPY.out
                obtain ⟨z0, z1, z2, z3, z4, z5, z6, z7, z8⟩ := HPXY.out
                have hxb5 := HPX5.out.lt
                have hr5 := HPR5.out.lt
                have htl : (tu : Int) < (L.length : Int) := by omega
                have HNO := Lib.hid (one_new (w.heap.size + 1) Y ⟨k, 0, [], t.pl⟩ (by have := HYZ.out; omega))
                have hbn := (Below.refl Y.heap.size Y).alloc (Nat.le_refl _) (.cells #[.int .i64 k, .int .i64 0, .string ⟨#[]⟩, .int .i64 t.pl] 33)
                have HRX := Lib.hid (HO1Y.out.read.on hbn)
                have HRY := Lib.hid (HO2Y.out.on hbn)
                have HPYn := Lib.hid (HPY.out.on hbn)
                have HPXn := Lib.hid (HPXY.out.on hbn)
                have HPRn := Lib.hid (HPRY.out.on hbn)
                have HBN := Lib.hid (below_then HBY.out hbn)
                clear hbn
                go_wp2_with (at_builtin; refine wpList_append_own_at _ rfl (.tmp 75) (.tmp 77) 29 rfl (w.heap.size + 1) 33 i0 (.agg #[.int .i64 0, .int .i64 0, .string ⟨#[]⟩, .int .i64 0]) 4 40 Tryz.underlying29 HZ.out.1 HZ.out.2.1 HZ.out.2.2.1 HZ.out.2.2.2 rfl (by decide) (.slice (some ⟨Y.heap.size, 0, none⟩) 1 1) 1 (cellsN [⟨k, 0, [], t.pl⟩]) rfl ?cO ⟨gx, 0, none⟩ n1 c1 (cellsN x.flat) rfl ?c0 ?c1 ?c2 ?c3 ?c4 ?c5 ?_)
                case cO => exact HNO.out
                case c0 => rw [cellsN_len, HN1.out]
                case c1 => exact read_news0 HRX.out
                case c2 => exact nod_one _
                case c3 => unfold maxLen; omega
                case c4 => omega
                case c5 => have := HYZ.out; first | omega | (simp; omega)
                intro v' w6 hown' hgrow _ hwhere
                have hyz := HYZ.out
                have hK6 := keeps_grown (show World.grownBy _ _ (some Y.heap.size) from hgrow)
                have hnz : (Y.alloc (.cells #[.int .i64 k, .int .i64 0, .string ⟨#[]⟩, .int .i64 t.pl] 33)).heap.size = Y.heap.size + 1 := by simp
                obtain ⟨u6, hu6, hu6l⟩ : ∃ u6, v'.ownBlock = some u6 ∧ Y.heap.size ≤ u6 := by
                  rcases hwhere with h | h
                  · exact ⟨Y.heap.size, h, Nat.le_refl _⟩
                  · exact ⟨_, h, by omega⟩
                have HOW := Lib.hid hown'
                have HO26 := Lib.hid (HRY.out.away (g := Y.heap.size) (fun q hq => by
                  have : g2 = q := by simpa [Value.ownBlock] using hq
                  omega) hK6)
                have HPY6 := Lib.hid (HPYn.out.keep (by omega) hK6)
                have HPX6 := Lib.hid (HPXn.out.keep (by omega) hK6)
                have HPR6 := Lib.hid (HPRn.out.keep (by omega) hK6)
                have HB6 : Hid (Below w.heap.size w w6) := Lib.hid (HBN.out.grown hgrow HBN.out.size (fun q hq => by
                  have : Y.heap.size = q := by simpa [Value.ownBlock] using hq
                  omega))
                have hs6 := hgrow.size
                have hOV : OwnN w6 (w.heap.size + 1) v' (⟨k, 0, [], t.pl⟩ :: x.flat) := by
                  unfold OwnN
                  rw [show ((⟨k, 0, [], t.pl⟩ : Nod) :: x.flat) = [⟨k, 0, [], t.pl⟩] ++ x.flat from rfl, cellsN_app, List.length_append, ← HN1.out]; exact hown'
                have hu6s := (ownN_block hOV u6 hu6).2
                have HU6 := Lib.hid hu6
                obtain ⟨A6, n6, c6, rfl⟩ := own_slice hOV
                have hpy := HPY6.out
                clear hown' hgrow hwhere hK6 hOV hu6 y0 y1 y2 y3 y4 y5 y6 y7 y8 z0 z1 z2 z3 z4 z5 z6 z7 z8 x3
                obtain ⟨y0, y1, y2, y3, y4, y5, y6, y7, y8⟩ := hpy
                go_wp2_with (at_builtin; refine wpList_append_own_at _ rfl (.tmp 79) (.tmp 81) 29 rfl (w.heap.size + 1) 33 i0 (.agg #[.int .i64 0, .int .i64 0, .string ⟨#[]⟩, .int .i64 0]) 4 40 Tryz.underlying29 HZ.out.1 HZ.out.2.1 HZ.out.2.2.1 HZ.out.2.2.2 rfl (by decide) (.slice A6 n6 c6) (1 + n1) (cellsN [⟨k, 0, [], t.pl⟩] ++ cellsN x.flat) rfl ?dO ⟨g2, 0, none⟩ n2 c2 (cellsN y.flat) rfl ?d0 ?d1 ?d2 ?d3 ?d4 ?d5 ?_)
                case dO => exact HOW.out
                case d0 => rw [cellsN_len, HN2.out]
                case d1 => exact read_news HO26.out.read
                case d2 => exact nod_one _
                case d3 => unfold maxLen; omega
                case d4 => omega
                case d5 => omega
                intro v'' w7 hown'' hgrow _ hwhere
                rw [HU6.out] at hgrow hwhere
                have hK7 := keeps_grown hgrow
                have hs7 := hgrow.size
                have hPX7 := HPX6.out.keep (g := u6) (by omega) hK7
                have HPR7 := Lib.hid (HPR6.out.keep (g := u6) (by omega) hK7)
                have HPY7 := Lib.hid (HPY6.out.keep (g := u6) (by omega) hK7)
                have hB7 : Below w.heap.size w w7 := HB6.out.grown hgrow HB6.out.size (fun q hq => by
                  have : u6 = q := by simpa using hq
                  omega)
                have hO7 : OwnN w7 (w.heap.size + 1) v'' (Ex.bin ⟨k, 0, [], t.pl⟩ x y).flat := by
                  unfold OwnN
                  rw [show (Ex.bin ⟨k, 0, [], t.pl⟩ x y).flat = ([⟨k, 0, [], t.pl⟩] ++ x.flat) ++ y.flat from rfl, cellsN_app, cellsN_app, List.length_append, List.length_append, ← HN1.out, ← HN2.out]; exact hown''
                have hu7 : ∀ q, v''.ownBlock = some q → q ≠ xb := by
                  intro q hq
                  rcases hwhere with h | h
                  · rw [h] at hq
                    have : u6 = q := by simpa using hq
                    omega
                  · rw [h] at hq
                    have : w6.heap.size = q := by simpa using hq
                    omega
                obtain ⟨A7, n7, c7, rfl⟩ := own_slice hO7
                obtain ⟨Z, hZ, hPZ, hKZ, hzZ⟩ := filled4 hPX7 (.slice A7 n7 c7) (.int .i64 (to2 : Int)) (.int .i64 0) (.int .i64 0)
                have HZE := Lib.hid hZ
                have HPZ := Lib.hid hPZ
                have HPRZ := Lib.hid (HPR7.out.keep (g := xb) (by omega) hKZ)
                have HOZ := Lib.hid (hO7.away (g := xb) hu7 hKZ)
                have HUZ := Lib.hid hu7
                have HBZ := Lib.hid (hB7.trans (hKZ.below (by omega) (by omega)))
                clear hown'' hgrow hwhere hK7 hO7 hB7 hu7 hZ hPZ hKZ y0 y1 y2 y3 y4 y5 y6 y7 y8
                obtain ⟨z0, z1, z2, z3, z4, z5, z6, z7, z8⟩ := hPX7
                obtain ⟨y0, y1, y2, y3, y4, y5, y6, y7, y8⟩ := HPY7.out
                go_upto_region 20 with (fail)
                rw [← HZE.out]
                clear z0 z1 z2 z3 z4 z5 z6 z7 z8 y0 y1 y2 y3 y4 y5 y6 y7 y8
                have hnx : (n = 2 → R = .ok (.bin ⟨k, 0, [], t.pl⟩ x y) to2) ∧ (n ≠ 2 → FineL L i (.bin ⟨k, 0, [], t.pl⟩ x y) to2 ∧ loopF L f' (n + 1) (.bin ⟨k, 0, [], t.pl⟩ x y) to2 d = some R) := HNXT.out
                by_cases h2 : n = 2
                · have HRE := Lib.hid (hnx.1 h2)
                  have hb3 : ((n : Int) == 2) = true := by rw [h2]; rfl
                  obtain ⟨z0, z1, z2, z3, z4, z5, z6, z7, z8⟩ := HPZ.out
                  obtain ⟨p0, p1, p2, p3, p4, p5, p6, p7, p8⟩ := HPRZ.out
                  clear h2 hnx
                  go_wp2_with fail
                  refine bodyPost_ret (v := .agg #[.slice A7 n7 c7, .int .i64 (to2 : Int), .int .i64 0, .int .i64 0]) (by simp [results, Tryz.results140, go_sem, *]) rfl ?_
                  rw [HRE.out]
                  exact rgives_box (r := .ok (.bin ⟨k, 0, [], t.pl⟩ x y) to2) HOZ.out HBZ.out rfl rfl rfl _ _ _ _
                · have HNX := Lib.hid (hnx.2 h2)
                  have hb3 : ((n : Int) == 2) = false := beq_eq_false_iff_ne.2 (by omega)
                  have HT1 := Lib.hid (boxTo_of HPZ.out)
                  have HT0 := Lib.hid (boxTo_of HPX.out)
                  clear h2 hnx
                  go_wp2_with fail
                  go_roundw
                  case rel => exact ⟨A7, n7, c7, f', _, to2, by omega, HPZ.out, HOZ.out, HUZ.out, HPRZ.out, HBZ.out, HNX.out.1, HNX.out.2⟩
                  case measure =>
                    rw [HT1.out, HT0.out]
                    omega
end Go.Proofs.YtpeohfgadnfnpaaGreatDoor
