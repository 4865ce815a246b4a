/-
  DERIVED. Layer 4: contracts of strings.Cut at a blank and of the reader's kind (package stmt).
-/
import Derived.Test.YtpeohfgadnfnpaaGreatDoorQ27
import Derived.Test.YtpeohfgadnfnpaaGreatDoorQ21
namespace Go.Proofs.YtpeohfgadnfnpaaGreatDoor
open Go.RowKit

/-- What Cut comes back with: what stands ahead; the rest is any. -/
def GivesCut (l : List UInt8) (w : World) (e : Ending) (w' : World) : Prop := ∃ (b : ByteArray) (c : Bool), e = .returned (.tuple #[.string ⟨l.toArray⟩, .string b, .bool c]) ∧ Below w.heap.size w w'
set_option maxRecDepth 100000 in
set_option maxHeartbeats 4000000 in
theorem cut_found (l : List UInt8) (n : Nat) (w : World) (hl : l.length ≤ 100) (hx : Lib.indexByte l 32 = n) (hn : n < l.length) : Calls Tryz.prog 125 #[.string ⟨l.toArray⟩, .string ⟨#[32]⟩] w (GivesCut (l.take n) w) := by
  have hsz : (⟨l.toArray⟩ : ByteArray).size = l.length := rfl
  have hext : (⟨l.toArray⟩ : ByteArray).extract 0 n = ⟨(l.take n).toArray⟩ := by apply bytes_ext; rw [ByteArray.data_extract]; simp
  have HX := Lib.hid hx
  have hw1 : IntKind.i64.wrap ((n : Int) + 1) = (n : Int) + 1 := IntWalk.i64_in _ (by omega)
  clear hx
  go_enter Tryz.func125, Tryz.ntmps125
  go_wp2_with fail
  refine (Tryz.stringslite_Index_one ⟨l.toArray⟩ 32 _).mono ?_
  rw [show (ByteArray.mk l.toArray).data.toList = l from by simp, HX.out]
  rintro e w1 ⟨rfl, rfl⟩
  have h0 : (0 : Int) ≤ (n : Int) := by omega
  have h1 : (n : Int) ≤ ((⟨l.toArray⟩ : ByteArray).size : Int) := by rw [hsz]; omega
  have h2 : (n : Int) + 1 ≤ ((⟨l.toArray⟩ : ByteArray).size : Int) := by rw [hsz]; omega
  go_wp2_with fail
  go_quiet (fail)
  go_wp2_with fail
  refine bodyPost_ret (v := .tuple #[.string ⟨(l.take n).toArray⟩, .string (ByteArray.extract ⟨l.toArray⟩ (n + 1) l.length), .bool true]) (by simp [results, Tryz.results125, go_sem]) rfl ?_
  exact ⟨_, _, rfl, below_drew1 _ _⟩
set_option maxRecDepth 100000 in
set_option maxHeartbeats 4000000 in
theorem cut_none (w : World) : Calls Tryz.prog 125 #[.string ⟨#[]⟩, .string ⟨#[32]⟩] w (GivesCut [] w) := by
  go_enter Tryz.func125, Tryz.ntmps125
  go_wp2_with fail
  refine (Tryz.stringslite_Index_one ⟨#[]⟩ 32 _).mono ?_
  rw [show Lib.indexByte (ByteArray.mk #[]).data.toList 32 = -1 from rfl]
  rintro e w1 ⟨rfl, rfl⟩
  go_wp2_with fail
  refine bodyPost_ret (v := .tuple #[.string ⟨#[]⟩, .string ⟨#[]⟩, .bool false]) (by simp [results, Tryz.results125, go_sem]) rfl ?_
  exact ⟨_, _, rfl, Below.refl _ _⟩
theorem form_first : ∀ k : Fin 15, 1 ≤ k.1 → Lib.indexByte (formsT k.1) 32 = ((firstW k.1).length : Nat) ∧ (firstW k.1).length < (formsT k.1).length ∧ (formsT k.1).take (firstW k.1).length = firstW k.1 := by decide
set_option maxRecDepth 100000 in
set_option maxHeartbeats 4000000 in
theorem scut_at {k : Nat} (hk : k < 15) (w : World) : Calls Tryz.prog 104 #[.string ⟨(formsT k).toArray⟩, .string ⟨#[32]⟩] w (GivesCut (firstW k) w) := by
  have key : ∀ w, Calls Tryz.prog 125 #[.string ⟨(formsT k).toArray⟩, .string ⟨#[32]⟩] w (GivesCut (firstW k) w) := by
    intro w
    rcases Nat.eq_zero_or_pos k with rfl | h0
    · exact cut_none w
    · obtain ⟨h1, h2, h3⟩ := form_first ⟨k, hk⟩ h0
      have := cut_found (formsT k) (firstW k).length w (by have := forms_len hk; omega) h1 h2
      rwa [h3] at this
  have HK := Lib.hid key
  generalize formsT k = f at *
  generalize firstW k = q at *
  clear key hk
  go_enter Tryz.func104, Tryz.ntmps104
  go_wp2_with fail
  refine (HK.out _).mono ?_
  rintro e w1 ⟨b, c, rfl, hb⟩
  go_wp2_with fail
  refine bodyPost_ret (v := .tuple #[.string ⟨q.toArray⟩, .string b, .bool c]) (by simp [results, Tryz.results104, go_sem]) rfl ?_
  exact ⟨b, c, rfl, hb⟩
theorem form_index : ∀ k, k < 15 → ∀ w : World, (Instr.index 65 (.agg formsVals) (.int .i64 (k : Nat))).run Tryz.prog w = .ok (.string ⟨(formsT k).toArray⟩) w := by
  intro k hk w
  have : k = 0 ∨ k = 1 ∨ k = 2 ∨ k = 3 ∨ k = 4 ∨ k = 5 ∨ k = 6 ∨ k = 7 ∨ k = 8 ∨ k = 9 ∨ k = 10 ∨ k = 11 ∨ k = 12 ∨ k = 13 ∨ k = 14 := by omega
  rcases this with rfl | rfl | rfl | rfl | rfl | rfl | rfl | rfl | rfl | rfl | rfl | rfl | rfl | rfl | rfl
  all_goals (refine Eq.trans ?_ rfl; kernel_rfl)
/-- No kind up to here. -/
def NoKind (L : List Tok) (i k : Nat) : Prop := ∀ j, j < k → j ≠ 1 → isB L i (kwTab.getD j []) = false
theorem NoKind.succ {L : List Tok} {i k : Nat} (h : NoKind L i k) (hk : k ≠ 1 → isB L i (kwTab.getD k []) = false) : NoKind L i (k + 1) := by
  intro j hj h1
  by_cases e : j = k
  · subst e; exact hk h1
  · exact h j (by omega) h1
section
variable {L : List Tok} {W0 : World} {g : Nat} {lv : Value} {i d l m : Nat} {pl : Int} {K : List Sv} {kv : Value} {w : World}
set_option maxRecDepth 100000 in
set_option maxHeartbeats 8000000 in
theorem kind4 (hs : Src L W0 lv) (h : St4 L W0 g lv i d l m pl K kv w) : Calls Tryz.prog 72 #[.pointer (some ⟨g, 0, none⟩)] w (GivesN (kindZ L i l) w) := by
  have HS := Lib.hid h
  have HC := Lib.hid hs
  obtain ⟨tt, fr, hg⟩ := (h.tabs hs).forms
  have hlt1 : 1 < w.heap.size := (Array.getElem?_eq_some_iff.1 hg).1
  have HG := Lib.hid hg
  have HX := Lib.hid form_index
  clear h hs hg
  cases hn : namedB L i with
  | true =>
    have HN := Lib.hid hn
    have HQ := Lib.hid (kindZ_named l hn)
    clear hn
    go_enter Tryz.func72, Tryz.ntmps72
    go_wp2_with fail
    refine (named4 HC.out HS.out).mono ?_
    rw [HN.out]
    rintro e w1 ⟨rfl, hb1⟩
    go_wp2_with fail
    go_ret
    exact givesN_of (n' := 1) rfl (by rw [HQ.out]; rfl) hb1
  | false =>
    have HN := Lib.hid hn
    clear hn
    go_enter Tryz.func72, Tryz.ntmps72
    go_wp2_with fail
    refine (named4 HC.out HS.out).mono ?_
    rw [HN.out]
    rintro e w1 ⟨rfl, hb1⟩
    have HB1 := Lib.hid hb1
    have HG1 : Hid (w1.heap[1]? = some (.cells formsVals tt fr)) := Lib.hid (by rw [hb1.block 1 hlt1]; exact HG.out)
    clear hb1
    go_wp2_with (refine wpList_load_row rfl 65 _ rfl 1 rfl tt formsVals fr _ HG1.out Tryz.underlying65 rfl (by kernel_rfl) ?_)
    go_loopw [11] (fun j wr => ∃ k : Nat, k ≤ 15 ∧ j = .int .i64 k ∧ Below w.heap.size w wr ∧ NoKind L i k) (fun j _ => 15 - (intOf j).toNat)
    case atStart => exact ⟨0, Nat.zero_le _, rfl, HB1.out, fun op ho => absurd ho (by omega)⟩
    case round =>
      obtain ⟨k, hk, rfl, hbel, hno⟩ := hrel
      have HB := Lib.hid hbel
      have HO := Lib.hid hno
      have HS2 := Lib.hid (HS.out.on hbel)
      clear hno hbel
      by_cases hlt : k < 15
      case neg =>
        obtain rfl : k = 15 := by omega
        have HQ := Lib.hid (kindZ_none (l := l) HN.out (fun k h1 h2 => HO.out k (by omega) (by omega)))
        go_wp2_with fail
        go_ret
        exact givesN_of (n' := 0) rfl (by rw [HQ.out]; rfl) HB.out
      case pos =>
      have hx := HX.out k hlt
      have HCU := Lib.hid (scut_at hlt)
      have hgl := HS2.out.lt
      have c0 := HS2.out.c0
      have c1 := HS2.out.c1
      have c3 := HS2.out.c3
      have hw1 : IntKind.i64.wrap ((k : Int) + 1) = (k : Int) + 1 := IntWalk.i64_in _ (by omega)
      have hi0 : (0 : Int) ≤ (k : Int) := by omega
      have hi1 : (k : Int) < 15 := by omega
      by_cases k1 : k = 1
      · have HQ := Lib.hid (HO.out.succ (k := k) (fun h => absurd k1 h))
        subst k1
        have hx : ∀ w : World, (Instr.index 65 (.agg formsVals) (.int .i64 1)).run Tryz.prog w = .ok (.string ⟨(formsT 1).toArray⟩) w := HX.out 1 (by omega)
        generalize formsT 1 = fk at *
        generalize firstW 1 = qk at *
        go_wp2_with fail
        refine (HCU.out _).mono ?_
        rintro e w2 ⟨b, c, rfl, hb2⟩
        have HB2 := Lib.hid (below_then HB.out hb2)
        clear hb2 c0 c1 c3
        go_wp2_with fail
        go_quiet (fail)
        go_wp2_with fail
        go_roundw
        case rel => exact ⟨2, by omega, rfl, below_then HB2.out (below_drew1 _ _), HQ.out⟩
        case measure => simp [intOf]
      have hk1 : ((k : Int) == 1) = false := by simp; omega
      have hfw : firstW k = kwTab.getD k [] := by unfold firstW; rw [if_neg k1]
      cases hq : isB L i (kwTab.getD k []) with
      | false =>
        have HQ := Lib.hid (HO.out.succ (k := k) (fun _ => hq))
        rw [hfw] at HCU
        have HI := Lib.hid hq
        clear hq k1 hfw
        generalize formsT k = fk at *
        generalize kwTab.getD k [] = qk at *
        go_wp2_with fail
        refine (HCU.out _).mono ?_
        rintro e w2 ⟨b, c, rfl, hb2⟩
        have HB2 := Lib.hid (below_then HB.out hb2)
        have HS3 := Lib.hid (HS.out.on HB2.out)
        clear hb2 c0 c1 c3 hgl
        have hgl := HS3.out.lt
        have c0 := HS3.out.c0
        have c1 := HS3.out.c1
        go_wp2_with fail
        go_region_held3 (fun w' => w'.cell? ⟨g, 0, none⟩ = some lv ∧ w'.cell? ⟨g, 1, none⟩ = some (.int .i64 i) ∧ Below w2.heap.size w2 w')
          (first | exact ⟨c0, c1, Below.refl _ _⟩ | exact ⟨c0, c1, below_dr _⟩ | exact kept2 (w1 := w2.drew) hgl ⟨c0, c1, below_dr _⟩ hb3)
          (first | (go_at_call 48; refine (is_at HI.out lv _ ((HS3.out.on (below_dr _)).toks HC.out)).mono ?_; rintro e w3 ⟨rfl, hb3⟩))
        go_wp2_with fail
        go_roundw
        case rel => exact ⟨k + 1, by omega, by go_num, below_then HB2.out (below_then (below_dr _) hb3), HQ.out⟩
        case measure => simp [intOf]; omega
      | true =>
        by_cases hz : k = 13 ∧ l = 0
        · obtain ⟨rfl, rfl⟩ := hz
          have HQ : Hid (kindZ L i 0 = 0) := Lib.hid (by rw [kindZ_found (by omega) (by omega) hq, if_pos ⟨rfl, rfl⟩])
          rw [hfw] at HCU
          have HI := Lib.hid hq
          clear hq k1 hfw
          have hx : ∀ w : World, (Instr.index 65 (.agg formsVals) (.int .i64 13)).run Tryz.prog w = .ok (.string ⟨(formsT 13).toArray⟩) w := HX.out 13 (by omega)
          generalize formsT 13 = fk at *
          generalize kwTab.getD 13 [] = qk at *
          go_wp2_with fail
          refine (HCU.out _).mono ?_
          rintro e w2 ⟨b, c, rfl, hb2⟩
          have HB2 := Lib.hid (below_then HB.out hb2)
          have HS3 := Lib.hid (HS.out.on HB2.out)
          clear hb2 c0 c1 c3 hgl
          have hgl := HS3.out.lt
          have c0 := HS3.out.c0
          have c1 := HS3.out.c1
          go_wp2_with fail
          go_region_held3 (fun w' => w'.cell? ⟨g, 0, none⟩ = some lv ∧ w'.cell? ⟨g, 1, none⟩ = some (.int .i64 i) ∧ Below w2.heap.size w2 w')
            (first | exact ⟨c0, c1, Below.refl _ _⟩ | exact ⟨c0, c1, below_dr _⟩ | exact kept2 (w1 := w2.drew) hgl ⟨c0, c1, below_dr _⟩ hb3)
            (first | (go_at_call 48; refine (is_at HI.out lv _ ((HS3.out.on (below_dr _)).toks HC.out)).mono ?_; rintro e w3 ⟨rfl, hb3⟩))
          have HB3 := Lib.hid (below_then HB2.out (below_then (below_dr _) hb3))
          have HS4 := Lib.hid (HS.out.on HB3.out)
          clear hb3 c0 c1 hgl
          have hgl := HS4.out.lt
          have c3 := HS4.out.c3
          go_wp2_with fail
          go_ret
          exact givesN_of (n' := 0) rfl (by rw [HQ.out]; rfl) HB3.out
        · have HQ : Hid (kindZ L i l = k) := Lib.hid (by
            rcases Nat.lt_or_ge k 2 with h | h
            · obtain rfl : k = 0 := by omega
              exact kindZ_empty HN.out hq
            · rw [kindZ_found h (by omega) hq, if_neg hz])
          rw [hfw] at HCU
          have HI := Lib.hid hq
          clear hq k1 hfw
          generalize formsT k = fk at *
          generalize kwTab.getD k [] = qk at *
          go_wp2_with fail
          refine (HCU.out _).mono ?_
          rintro e w2 ⟨b, c, rfl, hb2⟩
          have HB2 := Lib.hid (below_then HB.out hb2)
          have HS3 := Lib.hid (HS.out.on HB2.out)
          clear hb2 c0 c1 c3 hgl
          have hgl := HS3.out.lt
          have c0 := HS3.out.c0
          have c1 := HS3.out.c1
          go_wp2_with fail
          go_region_held3 (fun w' => w'.cell? ⟨g, 0, none⟩ = some lv ∧ w'.cell? ⟨g, 1, none⟩ = some (.int .i64 i) ∧ Below w2.heap.size w2 w')
            (first | exact ⟨c0, c1, Below.refl _ _⟩ | exact ⟨c0, c1, below_dr _⟩ | exact kept2 (w1 := w2.drew) hgl ⟨c0, c1, below_dr _⟩ hb3)
            (first | (go_at_call 48; refine (is_at HI.out lv _ ((HS3.out.on (below_dr _)).toks HC.out)).mono ?_; rintro e w3 ⟨rfl, hb3⟩))
          have HB3 := Lib.hid (below_then HB2.out (below_then (below_dr _) hb3))
          have HS4 := Lib.hid (HS.out.on HB3.out)
          clear hb3 c0 c1 hgl
          have hgl := HS4.out.lt
          have c3 := HS4.out.c3
          by_cases k13 : k = 13
          · have hk13 : ((k : Int) == 13) = true := by rw [k13]; rfl
            have hl0 : ((l : Int) == 0) = false := by simp; omega
            clear k13 hz
            go_wp2_with fail
            go_ret
            exact givesN_of (n' := k) rfl (by rw [HQ.out]) HB3.out
          · have hk13 : ((k : Int) == 13) = false := by simp; omega
            clear k13 hz
            go_wp2_with fail
            go_ret
            exact givesN_of (n' := k) rfl (by rw [HQ.out]) HB3.out
end
end Go.Proofs.YtpeohfgadnfnpaaGreatDoor
