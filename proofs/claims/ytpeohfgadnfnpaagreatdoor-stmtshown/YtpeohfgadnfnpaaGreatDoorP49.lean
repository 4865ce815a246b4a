/-
  DERIVED. Layer 4: the walks of the laws StmtShown and StmtBack: for all statements and for every text they are true.
-/
import Derived.Test.YtpeohfgadnfnpaaGreatDoorP48
import Derived.Test.YtpeohfgadnfnpaaGreatDoorP33
import Derived.Test.YtpeohfgadnfnpaaGreatDoorP21
namespace Go.Proofs.YtpeohfgadnfnpaaGreatDoor
open Go.RowKit

/-! ### Where what is wrong stands: within the text. -/
def Within {α : Type} (n : Nat) (r : RS α) : Prop := ∀ e p, r = .bad e p → 0 ≤ p ∧ p ≤ n
theorem within_ok {α : Type} (n : Nat) (a : α) (j : Nat) : Within n (RS.ok a j) := fun e p h => by cases h
theorem within_bad {α : Type} {n : Nat} {L : List Tok} (h : TF n L) (i : Nat) (er : Int) : Within n (badR L i er : RS α) := by
  intro e p hp
  unfold badR at hp
  simp only [RS.bad.injEq] at hp
  rw [← hp.2]
  exact place_le (fun t ht => (h t ht).1) i
theorem within_must {n : Nat} {L : List Tok} (h : TF n L) (i : Nat) (s : List UInt8) : Within n (mustP L i s) := by
  unfold mustP; split
  · exact within_ok _ _ _
  · exact within_bad h _ _
theorem within_name {n : Nat} {L : List Tok} (h : TF n L) (i : Nat) : Within n (nameP L i) := by
  unfold nameP; split
  · exact within_ok _ _ _
  · exact within_bad h _ _
theorem within_times {n : Nat} {L : List Tok} (h : TF n L) (i : Nat) : Within n (timesP L i) := by
  unfold timesP
  repeat' split
  · exact within_ok _ _ _
  · exact within_bad h _ _
  · exact within_bad h _ _
  · exact within_bad h _ _
theorem within_expr {n : Nat} {L : List Tok} (h : TF n L) (i : Nat) : Within n (exprP L i) := by
  have hpl := place_le (n := n) (fun t ht => (h t ht).1)
  intro e p hp
  unfold exprP at hp
  split at hp
  · cases hp
  · simp only [RS.bad.injEq] at hp
    rw [← hp.2, exprV_nat]
    cases hq : parseR L i with
    | bad e j => exact hpl j
    | ok x j =>
      by_cases hd : 12 < x.deep
      · rw [exprR_deep hd]; exact hpl _
      · by_cases hs : 40 < x.size
        · rw [exprR_big hd hs]; exact hpl _
        · rw [exprR_ok hd hs]; exact ⟨Int.le_refl _, by show (0 : Int) ≤ n; omega⟩
theorem Within.bind {α β : Type} {n : Nat} {r : RS α} {k : α → Nat → RS β} (h : Within n r) (hk : ∀ a j, Within n (k a j)) : Within n (r.bind k) := by
  cases r with
  | ok a j => exact hk a j
  | bad e p => intro e' p' hp; simp only [RS.bind_bad, RS.bad.injEq] at hp; rw [← hp.2]; exact h e p rfl
theorem within_plain {n : Nat} {L : List Tok} (h : TF n L) (k : Nat) (pl : Int) (i : Nat) : Within n (plainP L k pl i) := by
  unfold plainP
  repeat' split
  · exact (within_name h i).bind fun _ j => (within_must h j _).bind fun _ j => (within_expr h j).bind fun _ j => within_ok _ _ _
  · exact (within_name h i).bind fun _ j => (within_must h j _).bind fun _ j => (within_name h j).bind fun _ j => within_ok _ _ _
  · exact (within_name h i).bind fun _ j => (within_must h j _).bind fun _ j => (within_expr h j).bind fun _ j => within_ok _ _ _
  · exact (within_name h i).bind fun _ j => (within_must h j _).bind fun _ j => (within_name h j).bind fun _ j => (within_must h j _).bind fun _ j => (within_expr h j).bind fun _ j => (within_must h j _).bind fun _ j => (within_expr h j).bind fun _ j => within_ok _ _ _
  · exact (within_name h i).bind fun _ j => within_ok _ _ _
  · exact (within_expr h i).bind fun _ j => within_ok _ _ _
  · exact (within_times h i).bind fun _ j => within_ok _ _ _
  · exact within_ok _ _ _
def WithinO {α : Type} (n : Nat) (o : Option (RS α)) : Prop := ∀ r, o = some r → Within n r
theorem WithinO.obind {α β : Type} {n : Nat} {o : Option (RS α)} {k : α → Nat → Option (RS β)} (h : WithinO n o) (hk : ∀ a j, WithinO n (k a j)) : WithinO n (RS.obind o k) := by
  intro r hr
  rcases RS.obind_some hr with ⟨a, j, h1, h2⟩ | ⟨e, p, h1, rfl⟩
  · exact hk a j r h2
  · intro e' p' hp; simp only [RS.bad.injEq] at hp; rw [← hp.2]; exact h _ h1 e p rfl
theorem withinO_some {α : Type} {n : Nat} {r : RS α} (h : Within n r) : WithinO n (some r) := fun r' hr => by rw [← Option.some.inj hr]; exact h
theorem within_block {n : Nat} {L : List Tok} (h : TF n L) {row : Rows4} (hr : ∀ i d l, WithinO n (row i d l)) (i d l : Nat) : WithinO n (blockW row L i d l) := by
  unfold blockW
  split
  · exact withinO_some (within_bad h _ _)
  · exact (withinO_some (within_must h _ _)).obind fun _ j => (hr _ _ _).obind fun _ j => (withinO_some (within_must h _ _)).obind fun _ j => withinO_some (within_ok _ _ _)
theorem within_else {n : Nat} {L : List Tok} (h : TF n L) {row : Rows4} (hr : ∀ i d l, WithinO n (row i d l)) (k i d l : Nat) : WithinO n (elseW4 row L k i d l) := by
  unfold elseW4
  split
  · exact within_block h hr _ _ _
  · exact withinO_some (within_ok _ _ _)
theorem within_one {n : Nat} {L : List Tok} (h : TF n L) {row : Rows4} (hr : ∀ i d l, WithinO n (row i d l)) (i d l : Nat) : WithinO n (oneW row L i d l) := by
  unfold oneW
  split
  · exact withinO_some (within_bad h _ _)
  · refine (withinO_some (within_plain h _ _ _)).obind fun s j => ?_
    split
    · exact (withinO_some (within_must h _ _)).obind fun _ j => withinO_some (within_ok _ _ _)
    · exact (within_block h hr _ _ _).obind fun _ j => (within_else h hr _ _ _ _).obind fun _ j => withinO_some (within_ok _ _ _)
theorem within_row {n : Nat} {L : List Tok} (h : TF n L) : ∀ f i d l, WithinO n (rowF L f i d l) := by
  intro f
  induction f with
  | zero => intro i d l r hr; simp [rowF] at hr
  | succ f ih =>
    intro i d l
    rw [rowF_succ]
    split
    · exact withinO_some (within_ok _ _ _)
    · exact (within_one h ih _ _ _).obind fun _ j => (ih _ _ _).obind fun _ j => withinO_some (within_ok _ _ _)
theorem stmt_place {n : Nat} {L : List Tok} (h : TF n L) (i : Nat) : 0 ≤ (stmtV L i).pl ∧ (stmtV L i).pl ≤ n := by
  cases hb : blockR L i 0 0 with
  | bad e p => rw [blockR_bad hb]; exact within_block h (within_row h (L.length + 1)) i 0 0 _ (blockR_some L i 0 0) e p hb
  | ok t j =>
    by_cases hc : 40 < t.count
    · rw [blockR_big hb hc]; exact place_le (fun t ht => (h t ht).1) i
    · rw [blockR_ok hb hc]; exact ⟨Int.le_refl _, by show (0 : Int) ≤ n; omega⟩

/-! ### What is right is small. -/
theorem fit_small {x : Stm} (h : fitS x = true) : SmallS x := by
  obtain ⟨h1, h2, _, _, h5, h6, _⟩ := fit_len h
  exact ⟨by omega, by omega, h5.1, h6.1, h5.2, h6.2⟩
theorem right_smallS {L : List Stm} (h : rightS L = true) : ∀ x ∈ L, SmallS x := by
  obtain ⟨b, rfl, g1, _⟩ := rightS_some h
  exact fun x hx => fit_small (List.all_eq_true.1 g1.2 x hx)
/-- What is found in the tokens of what is shown. -/
theorem shownS_facts {L : List Stm} (h : rightS L = true) (hl : (showS L).length ≤ 3998) : ∃ (T : List Tok) (M : List Stm), scanL (123 :: (showS L ++ [125])) 0 = .fine T ∧ T.length ≤ 10000 ∧ SmallT T ∧ stmtV T 0 = ⟨M, T.length, 0, 0⟩ ∧ rightS M = true ∧ (∀ x ∈ M, SmallS x) ∧ M.length ≤ 40 ∧ sameSt false M L = true ∧ sameSt false L M = true ∧ depthS M = depthS L := by
  obtain ⟨b, rfl, g1, g2, g3, g4, _⟩ := rightS_some h
  rw [showS_right g1.1 h] at hl ⊢
  obtain ⟨b', T, h1, h2, h3, h4⟩ := block_back g1 g3 g4 g2
  obtain ⟨s1, s2, s3⟩ := same_back h1
  have hlen : (123 :: (linesB [] b ++ [125])).length ≤ 4000 := by simp only [List.length_cons, List.length_append, List.length_nil]; omega
  have hsf := scan_facts (123 :: (linesB [] b ++ [125]))
  have hsm := scan_small hlen
  rw [h2] at hsf hsm
  have hTF : TF 4000 T := fun t ht => by have := hsf.2 t ht; omega
  have hT : T.length ≤ 4000 := by have := hsf.1; exact Nat.le_trans this hlen
  have hR : b'.fit ∧ rightS b'.flat = true := by
    rcases stmt_right (Nat.le_refl 4000) hTF 0 with ⟨e, p, he, hs⟩ | ⟨c, q, hc, _, hf, hr, _⟩
    · rw [show stmtV T ((0 : Nat) : Int) = stmtV T 0 from rfl, h4] at hs
      exact absurd (show (0 : Int) = e from congrArg ParsedS.err hs).symm he
    · rw [h3] at hc
      simp only [RS.ok.injEq] at hc
      rw [hc.1]; exact ⟨hf, hr⟩
  refine ⟨T, b'.flat, h2, by omega, hsm, h4, hR.2, right_smallS hR.2, ?_, s2, s1, ?_⟩
  · rw [flat_count, count_same h1]; exact g2
  · rw [depthS_right hR.1 hR.2, depthS_right g1.1 h, s3]

/-! ### The scan of a text between braces. -/
theorem brace_str (l : List UInt8) : (⟨#[123]⟩ : ByteArray) ++ ⟨l.toArray⟩ ++ ⟨#[125]⟩ = ⟨(123 :: (l ++ [125])).toArray⟩ := by
  rw [show (⟨#[123]⟩ : ByteArray) = ⟨([123] : List UInt8).toArray⟩ from rfl, show (⟨#[125]⟩ : ByteArray) = ⟨([125] : List UInt8).toArray⟩ from rfl, str_app, str_app]
  simp
theorem rscan_brace {l : List UInt8} {T : List Tok} (h : scanL (123 :: (l ++ [125])) 0 = .fine T) (hl : l.length ≤ 3998) (w : World) : Calls Tryz.prog 25 #[.string ((⟨#[123]⟩ : ByteArray) ++ ⟨l.toArray⟩ ++ ⟨#[125]⟩)] w (GivesF ⟨T, 0, 0⟩ w) := by
  rw [brace_str]
  have := rscan_any ⟨(123 :: (l ++ [125])).toArray⟩ w (by show (123 :: (l ++ [125])).toArray.size ≤ 4000; simp; omega)
  rwa [show (ByteArray.mk (123 :: (l ++ [125])).toArray).data.toList = 123 :: (l ++ [125]) from by simp, h] at this
set_option maxRecDepth 100000 in
set_option maxHeartbeats 4000000 in
theorem rscan_big (s : ByteArray) (w : World) (hs : 4000 < s.size) : Calls Tryz.prog 25 #[.string s] w (fun e w' => e = .returned (.tuple #[.slice none 0 0, .int .i64 2, .int .i64 4000]) ∧ w' = w) := by
  have hs1 : (4000 : Int) < (s.size : Int) := by omega
  go_enter Tryz.func25, Tryz.ntmps25
  go_wp2_with fail
  refine bodyPost_ret (v := .tuple #[.slice none 0 0, .int .i64 2, .int .i64 4000]) (by simp [results, Tryz.results25, go_sem]) rfl ?_
  exact ⟨rfl, rfl⟩
theorem rscan_brace_big {l : List UInt8} (hl : ¬ l.length ≤ 3998) (w : World) : Calls Tryz.prog 25 #[.string ((⟨#[123]⟩ : ByteArray) ++ ⟨l.toArray⟩ ++ ⟨#[125]⟩)] w (fun e w' => e = .returned (.tuple #[.slice none 0 0, .int .i64 2, .int .i64 4000]) ∧ w' = w) := by
  rw [brace_str]
  exact rscan_big _ w (by show 4000 < (123 :: (l ++ [125])).toArray.size; simp; omega)

set_option maxRecDepth 100000 in
set_option maxHeartbeats 16000000 in
theorem shown4_any (A : Option Addr) (n c : Nat) (R : Nat → RawS) (w : World) (hA : ArgS w A n R) (ht : Tabs w) : Calls Tryz.prog 6 #[.slice A n c] w (IsTrue w) := by
  have HA := Lib.hid hA
  have HT := Lib.hid ht
  have hll := rawS_len R (min n 50)
  have HSM := Lib.hid (rawS_small R (min n 50))
  clear hA ht
  go_enter Tryz.func6, Tryz.ntmps6
  go_wp2_with fail
  refine (cutK_any A n c R _ HA.out).mono ?_
  generalize rawS R (min n 50) = L at *
  have hl50 : L.length ≤ 50 := by omega
  clear hll
  rintro e w1 ⟨g1, cap1, K1, rfl, hm1, ho1, hb⟩
  have HB := Lib.hid hb
  have HO : Hid (ReadSt w1 (.slice (some ⟨g1, 0, none⟩) L.length cap1) L) := Lib.hid (by have := ho1.read; rw [hm1] at this; exact this)
  clear ho1 hb hm1
  go_wp2_with fail
  refine (sshow_any _ L _ HO.out HSM.out (HT.out.on HB.out)).mono ?_
  obtain ⟨sh, hsh⟩ : ∃ sh, showS L = sh := ⟨_, rfl⟩
  rw [hsh]
  rintro e w2 ⟨rfl, hb⟩
  replace HO := Lib.hid (HO.out.on hb)
  replace HB := Lib.hid (below_then HB.out hb)
  clear hb
  go_wp2_with fail
  refine (sright_any _ L _ HO.out HSM.out (HT.out.on HB.out)).mono ?_
  cases hr : rightS L with
  | false =>
    obtain rfl : sh = [] := by rw [← hsh]; exact showS_no hr
    have HD := Lib.hid (depthS_no hr)
    rintro e w3 ⟨rfl, hb⟩
    replace HO := Lib.hid (HO.out.on hb)
    replace HB := Lib.hid (below_then HB.out hb)
    clear hb hsh hr
    go_wp2_with fail
    refine (sdepth_any _ L _ HO.out HSM.out (HT.out.on HB.out)).mono ?_
    rw [HD.out]
    rintro e w4 ⟨rfl, hb⟩
    replace HB := Lib.hid (below_then HB.out hb)
    clear hb
    go_wp2_with fail
    refine (fixed_any _ (HT.out.on HB.out)).mono ?_
    rintro e w5 ⟨rfl, hb⟩
    go_wp2_with fail
    go_ret
    exact ⟨rfl, below_then HB.out hb⟩
  | true =>
    have hs6 := show_small hr
    rw [hsh] at hs6
    rintro e w3 ⟨rfl, hb⟩
    replace HO := Lib.hid (HO.out.on hb)
    replace HB := Lib.hid (below_then HB.out hb)
    clear hb
    have hcat1 : ¬ (9223372036854775807 < 1 + sh.length) := by omega
    have hcat2 : ¬ (9223372036854775807 < 1 + sh.length + 1) := by omega
    by_cases hlt : sh.length ≤ 3998
    · obtain ⟨T, M, f1, f2, f3, f4, f5, f6, f7, f8, _, f10⟩ := shownS_facts hr (by rw [hsh]; exact hlt)
      rw [hsh] at f1
      have F1 := Lib.hid f1
      have F3 := Lib.hid f3
      have F4 := Lib.hid f4
      have F6 := Lib.hid f6
      have F8 := Lib.hid f8
      obtain ⟨dL, hdL⟩ : ∃ d, depthS L = d := ⟨_, rfl⟩
      have HDL := Lib.hid hdL
      have HDM : Hid (depthS M = dL) := Lib.hid (by rw [f10, hdL])
      have hlI : ¬ (3998 : Int) < (sh.length : Int) := by omega
      clear hsh hr f1 f3 f4 f5 f6 f8 f10 hdL
      go_wp2_with fail
      refine (rscan_brace F1.out hlt _).mono ?_
      rintro e w4 ⟨v4, rfl, ho, hb⟩
      obtain ⟨A4, c4, rfl, _⟩ := ho.read
      have HTK := Lib.hid ho.read
      replace HO := Lib.hid (HO.out.on hb)
      replace HB := Lib.hid (below_then HB.out hb)
      clear ho hb
      go_wp2_with fail
      refine (sparse_any _ T 0 _ HTK.out (HT.out.on HB.out) f2 F3.out).mono ?_
      rw [F4.out]
      rintro e w5 ⟨v5, rfl, ho, hb⟩
      have HO5 := Lib.hid ho.read
      obtain ⟨A5, c5, rfl, _⟩ := ho.read
      replace HO := Lib.hid (HO.out.on hb)
      replace HB := Lib.hid (below_then HB.out hb)
      clear ho hb HTK
      go_wp2_with fail
      refine (ssame_any _ _ M L _ HO5.out HO.out (by omega) F6.out).mono ?_
      rw [F8.out]
      rintro e w6 ⟨rfl, hb⟩
      replace HO := Lib.hid (HO.out.on hb)
      replace HO5 := Lib.hid (HO5.out.on hb)
      replace HB := Lib.hid (below_then HB.out hb)
      clear hb
      go_wp2_with fail
      refine (sdepth_any _ M _ HO5.out F6.out (HT.out.on HB.out)).mono ?_
      rw [HDM.out]
      rintro e w7 ⟨rfl, hb⟩
      replace HO := Lib.hid (HO.out.on hb)
      replace HB := Lib.hid (below_then HB.out hb)
      clear hb
      go_wp2_with fail
      refine (sdepth_any _ L _ HO.out HSM.out (HT.out.on HB.out)).mono ?_
      rw [HDL.out]
      rintro e w8 ⟨rfl, hb⟩
      replace HB := Lib.hid (below_then HB.out hb)
      clear hb
      go_wp2_with fail
      refine (fixed_any _ (HT.out.on HB.out)).mono ?_
      rintro e w9 ⟨rfl, hb⟩
      go_wp2_with fail
      go_ret
      exact ⟨rfl, below_then HB.out hb⟩
    · have hlI : (3998 : Int) < (sh.length : Int) := by omega
      clear hsh hr
      go_wp2_with fail
      refine (rscan_brace_big hlt _).mono ?_
      rintro e w4 ⟨rfl, rfl⟩
      go_wp2_with fail
      refine (fixed_any _ (HT.out.on HB.out)).mono ?_
      rintro e w9 ⟨rfl, hb⟩
      go_wp2_with fail
      go_ret
      exact ⟨rfl, below_then HB.out hb⟩

theorem cut_sizeB (s : ByteArray) (n : Nat) : (s.extract 0 (min (s.size : Int) n).toNat).size ≤ n := by
  rw [ByteArray.size_extract]; omega
set_option maxRecDepth 100000 in
set_option maxHeartbeats 16000000 in
theorem back4_any (s : ByteArray) (w : World) (ht : Tabs w) : Calls Tryz.prog 5 #[.string s] w (IsTrue w) := by
  have HU := Lib.hid (cut_sizeB s 900)
  have HT := Lib.hid ht
  clear ht
  go_enter Tryz.func5, Tryz.ntmps5
  go_wp2_with fail
  change Calls _ _ #[.string (s.extract 0 (min (s.size : Int) (900 : Nat)).toNat)] _ _
  generalize s.extract 0 (min (s.size : Int) (900 : Nat)).toNat = u at *
  generalize min (s.size : Int) 900 = mm
  have hu := HU.out
  refine (tokens_any u _ (by omega)).mono ?_
  have hul : u.data.toList.length = u.size := len_data u
  have hsm : SmallT (scanL u.data.toList 0).toks := scan_small (by omega)
  have hsf := scan_facts u.data.toList
  rw [hul] at hsf
  have hTF : TF u.size (scanL u.data.toList 0).toks := hsf.2
  have hpl := stmt_place hTF 0
  have hright := stmt_right (by omega) hTF 0
  have hTl := hsf.1
  generalize (scanL u.data.toList 0).toks = T at *
  rintro e w1 ⟨v1, rfl, ho, hb⟩
  obtain ⟨A1, c1, rfl, _⟩ := ho.read
  have HO := Lib.hid ho.read
  have HB := Lib.hid hb
  have HSM := Lib.hid hsm
  have HPL := Lib.hid hpl
  have HRT := Lib.hid hright
  clear ho hb hsm hsf hTF hul hpl hright
  go_wp2_with fail
  refine (sparse_any _ T 0 _ HO.out (HT.out.on HB.out) (by omega) HSM.out).mono ?_
  have hpl := HPL.out
  rcases HRT.out with ⟨er, p, he, hs⟩ | ⟨b, q, _, hs, hf, hr, hq1, hq2⟩
  · rw [show stmtV T ((0 : Nat) : Int) = stmtV T 0 from rfl] at hs hpl
    rw [hs] at hpl ⊢
    have hp0 : 0 ≤ p := hpl.1
    have hp1 : p ≤ (u.size : Int) := hpl.2
    clear hpl
    have p6 : (er != 0) = true := by simpa using he
    rintro e w2 ⟨v2, rfl, ho, hb⟩
    obtain ⟨A2, c2, rfl, _⟩ := ho.read
    replace HB := Lib.hid (below_then HB.out hb)
    clear ho hb hs
    go_wp2_with fail
    refine (fixed_any _ (HT.out.on HB.out)).mono ?_
    rintro e w3 ⟨rfl, hb⟩
    go_wp2_with fail
    go_ret
    exact ⟨rfl, below_then HB.out hb⟩
  · rw [show stmtV T ((0 : Nat) : Int) = stmtV T 0 from rfl] at hs
    rw [hs]
    generalize b.flat = L at *
    have HSL := Lib.hid (right_smallS hr)
    have HR := Lib.hid hr
    have hs6 := show_small hr
    obtain ⟨sh, hsh⟩ : ∃ sh, showS L = sh := ⟨_, rfl⟩
    have HSH := Lib.hid hsh
    rw [hsh] at hs6
    have hL40 : L.length ≤ 40 := by
      unfold rightS at hr
      simp only [Bool.and_eq_true, decide_eq_true_eq] at hr
      exact hr.1.1
    rintro e w2 ⟨v2, rfl, ho, hb⟩
    obtain ⟨A2, c2, rfl, _⟩ := ho.read
    have HO2 := Lib.hid ho.read
    replace HO := Lib.hid (HO.out.on hb)
    replace HB := Lib.hid (below_then HB.out hb)
    clear ho hb hs hpl hf
    have hcat1 : ¬ (9223372036854775807 < 1 + sh.length) := by omega
    have hcat2 : ¬ (9223372036854775807 < 1 + sh.length + 1) := by omega
    have b1 : ¬ (q : Int) < 2 := by omega
    have b2 : ¬ ((T.length : Nat) : Int) < (q : Int) := by omega
    have d1 : decide (q < 2) = false := by simp; omega
    have d2 : decide (T.length < q) = false := by simp; omega
    go_wp2_with fail
    refine (sshow_any _ L _ HO2.out HSL.out (HT.out.on HB.out)).mono ?_
    rw [HSH.out]
    rintro e w3 ⟨rfl, hb⟩
    replace HO2 := Lib.hid (HO2.out.on hb)
    replace HB := Lib.hid (below_then HB.out hb)
    clear hb
    by_cases hlt : sh.length ≤ 3998
    · obtain ⟨T2, M, f1, f2, f3, f4, f5, f6, f7, _, f9, _⟩ := shownS_facts hr (by rw [hsh]; exact hlt)
      rw [hsh] at f1
      have F1 := Lib.hid f1
      have F3 := Lib.hid f3
      have F4 := Lib.hid f4
      have F9 := Lib.hid f9
      clear hsh hr f1 f3 f4 f5 f6 f9
      go_wp2_with fail
      refine (rscan_brace F1.out hlt _).mono ?_
      rintro e w4 ⟨v4, rfl, ho, hb⟩
      obtain ⟨A4, c4, rfl, _⟩ := ho.read
      have HTK := Lib.hid ho.read
      replace HO2 := Lib.hid (HO2.out.on hb)
      replace HB := Lib.hid (below_then HB.out hb)
      clear ho hb
      go_wp2_with fail
      refine (sright_any _ L _ HO2.out HSL.out (HT.out.on HB.out)).mono ?_
      rw [HR.out]
      rintro e w5 ⟨rfl, hb⟩
      replace HTK := Lib.hid (HTK.out.on hb)
      replace HO2 := Lib.hid (HO2.out.on hb)
      replace HB := Lib.hid (below_then HB.out hb)
      clear hb
      go_wp2_with fail
      refine (sparse_any _ T2 0 _ HTK.out (HT.out.on HB.out) f2 F3.out).mono ?_
      rw [F4.out]
      rintro e w6 ⟨v6, rfl, ho, hb⟩
      have HO6 := Lib.hid ho.read
      obtain ⟨A6, c6, rfl, _⟩ := ho.read
      replace HO2 := Lib.hid (HO2.out.on hb)
      replace HB := Lib.hid (below_then HB.out hb)
      clear ho hb HTK
      go_wp2_with fail
      refine (ssame_any _ _ L M _ HO2.out HO6.out (by omega) HSL.out).mono ?_
      rw [F9.out]
      rintro e w7 ⟨rfl, hb⟩
      replace HB := Lib.hid (below_then HB.out hb)
      clear hb
      go_wp2_with fail
      refine (fixed_any _ (HT.out.on HB.out)).mono ?_
      rintro e w9 ⟨rfl, hb⟩
      go_wp2_with fail
      go_ret
      exact ⟨rfl, below_then HB.out hb⟩
    · clear hsh hr
      go_wp2_with fail
      refine (rscan_brace_big hlt _).mono ?_
      rintro e w4 ⟨rfl, rfl⟩
      go_wp2_with fail
      refine (sright_any _ L _ HO2.out HSL.out (HT.out.on HB.out)).mono ?_
      rw [HR.out]
      rintro e w5 ⟨rfl, hb⟩
      replace HO2 := Lib.hid (HO2.out.on hb)
      replace HB := Lib.hid (below_then HB.out hb)
      clear hb
      go_wp2_with fail
      refine (sright_any _ L _ HO2.out HSL.out (HT.out.on HB.out)).mono ?_
      rw [HR.out]
      rintro e w6 ⟨rfl, hb⟩
      replace HB := Lib.hid (below_then HB.out hb)
      clear hb
      go_wp2_with fail
      refine (fixed_any _ (HT.out.on HB.out)).mono ?_
      rintro e w9 ⟨rfl, hb⟩
      go_wp2_with fail
      go_ret
      exact ⟨rfl, below_then HB.out hb⟩
end Go.Proofs.YtpeohfgadnfnpaaGreatDoor
