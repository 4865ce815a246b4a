/-
  DERIVED. Layer 4: the document's reader: a statement more in its row, one written anew; what its calls come back with.
-/
import Derived.Test.YtpeohfgadnfnpaaGreatDoorQ45
namespace Go.Proofs.YtpeohfgadnfnpaaGreatDoor
open Go.RowKit

section
variable {L : List Tok} {W0 : World} {g : Nat} {lv : Value} {t : RS Unit} {K : List Sv} {kv : Value} {w : World} {x : Sv}
/-- A statement more is kept. -/
theorem Sr.more (h : Sr L W0 g lv t K kv w) {w2 w5 : World} {g5 cap : Nat} (hre : ReadE W0.heap.size w5 x.vE x.s.e) (hrf : ReadE W0.heap.size w5 x.vF x.s.f) (h2 : Below w.heap.size w w2)
    (hown : w5.ownsRow W0.heap.size 31 9 (.slice (some ⟨g5, 0, none⟩) (K.length + 1) cap) (K.length + 1) (cellsV K ++ svCells x)) (hg : w2.grownBy w5 kv.ownBlock) (hat : kv.ownBlock = some g5 ∨ w.heap.size ≤ g5) (hgg : g5 ≠ g) :
    Sr L W0 g lv t (K ++ [x]) (.slice (some ⟨g5, 0, none⟩) (K.length + 1) cap) (w5.setCell ⟨g, 4, none⟩ (.slice (some ⟨g5, 0, none⟩) (K.length + 1) cap)) ∧ KeepP (Mine g kv) w (w5.setCell ⟨g, 4, none⟩ (.slice (some ⟨g5, 0, none⟩) (K.length + 1) cap)) ∧ Onward kv (.slice (some ⟨g5, 0, none⟩) (K.length + 1) cap) w := by
  have hkv : ∀ q, kv.ownBlock = some q → q ≠ g := fun q hq => (h.own_ne q hq).1
  obtain ⟨i, er, pos, hb, hst⟩ := h.blk
  have h2b : w2.heap[g]? = some (five lv i er pos kv) := by rw [h2.block g h.lt]; exact hb
  have hg5 : w5.heap[g]? = some (five lv i er pos kv) := by
    rw [hg.block g (Array.getElem?_eq_some_iff.1 h2b).1 (fun e => hkv g e.symm rfl)]; exact h2b
  have k5 : KeepP (Mine g kv) w w5 := (KeepP.of (P := fun _ => False) h2).trans (KeepP.grown hg) (fun _ _ h => h.elim) (fun _ _ h => .inr h)
  have k6 : KeepP (Mine g kv) w (w5.setCell ⟨g, 4, none⟩ (.slice (some ⟨g5, 0, none⟩) (K.length + 1) cap)) := k5.trans KeepP.set (fun _ _ h => h) (fun _ _ h => .inl h)
  have kg : KeepP (fun k => k = g) w5 (w5.setCell ⟨g, 4, none⟩ (.slice (some ⟨g5, 0, none⟩) (K.length + 1) cap)) := KeepP.set
  have hn5 : ∀ q cs fr, w5.heap[q]? = some (.cells cs 33 fr) → ¬ (q = g) := fun q cs fr hh e => by rw [e, hg5] at hh; simp at hh
  refine ⟨⟨h.low.trans (k6.below h.mine_low h.low.size), h.gB, ⟨i, er, pos, set_blk hg5, hst⟩, ?_, ?_⟩, k6, ?_⟩
  · rw [cellsV_app, List.length_append]
    have e1 : cellsV [x] = svCells x := by simp [cellsV]
    rw [e1]
    exact row_keep hown kg (fun q hq e => hgg (by simp [Value.ownBlock] at hq; rw [hq, e]))
  · intro y hy
    rcases List.mem_append.1 hy with h1 | h1
    · obtain ⟨r1, r2⟩ := h.rds y h1
      exact ⟨(r1.keep k6 h.mine_nodes), (r2.keep k6 h.mine_nodes)⟩
    · simp at h1
      subst h1
      exact ⟨hre.keep kg hn5, hrf.keep kg hn5⟩
  · intro q hq
    simp [Value.ownBlock] at hq
    subst hq
    exact hat
/-- A statement of the row is written anew, whole. -/
theorem Sr.fill {P Q : List Sv} {y : Sv} {gq cap : Nat} (h : Sr L W0 g lv t (P ++ [x] ++ Q) (.slice (some ⟨gq, 0, none⟩) (P ++ [x] ++ Q).length cap) w) (hre : ReadE W0.heap.size w y.vE y.s.e) (hrf : ReadE W0.heap.size w y.vF y.s.f) {p : Nat} (hp : p = P.length) {a0 a1 a2 a3 a4 a5 a6 a7 a8 : Value} (hy : svCells y = [a0, a1, a2, a3, a4, a5, a6, a7, a8]) {w' : World}
    (hw : w' = (((((((((w.setCell ⟨gq, p * 9, none⟩ a0).setCell ⟨gq, p * 9 + 1, none⟩ a1).setCell ⟨gq, p * 9 + 2, none⟩ a2).setCell ⟨gq, p * 9 + 3, none⟩ a3).setCell ⟨gq, p * 9 + 4, none⟩ a4).setCell ⟨gq, p * 9 + 5, none⟩ a5).setCell ⟨gq, p * 9 + 6, none⟩ a6).setCell ⟨gq, p * 9 + 7, none⟩ a7).setCell ⟨gq, p * 9 + 8, none⟩ a8)) :
    Sr L W0 g lv t (P ++ [y] ++ Q) (.slice (some ⟨gq, 0, none⟩) (P ++ [x] ++ Q).length cap) w' ∧ KeepP (fun k => k = gq) w w' := by
  subst hp
  have k1 : ∀ {u : World} {j : Nat} {v : Value}, KeepP (fun k => k = gq) w u → KeepP (fun k => k = gq) w (u.setCell ⟨gq, j, none⟩ v) := fun h => h.trans KeepP.set (fun _ _ h => h) (fun _ _ h => h)
  have hk : KeepP (fun k => k = gq) w w' := by rw [hw]; exact k1 (k1 (k1 (k1 (k1 (k1 (k1 (k1 (k1 (KeepP.refl _ _)))))))))
  obtain ⟨hgg, hlt, hB⟩ := h.own_ne gq rfl
  obtain ⟨i, er, pos, hb, hst⟩ := h.blk
  have hm : ∀ q cs fr, w.heap[q]? = some (.cells cs 33 fr) → ¬ (q = gq) := fun q cs fr hh e => h.mine_nodes q cs fr hh (.inr (by rw [e]; rfl))
  refine ⟨⟨h.low.trans (hk.below (fun k hk e => by omega) h.low.size), h.gB, ⟨i, er, pos, by rw [hk.block g h.lt (fun e => hgg e.symm)]; exact hb, hst⟩, ?_, ?_⟩, hk⟩
  · refine ⟨by rw [cellsV_len], ?_⟩
    have hl : (P ++ [y] ++ Q).length = (P ++ [x] ++ Q).length := by simp
    rcases h.row.2 with ⟨h0, _⟩ | ⟨g', cap', cur, h1, h2, h3, h4, h5, h6, h7⟩
    · cases h0
    · simp only [Value.slice.injEq, Option.some.injEq, Addr.mk.injEq] at h1
      obtain ⟨⟨rfl, _⟩, _, rfl⟩ := h1
      refine .inr ⟨gq, cap, _, by rw [hl], h2, by rw [hw]; exact set_blk (set_blk (set_blk (set_blk (set_blk (set_blk (set_blk (set_blk (set_blk h3)))))))), by omega, h5, by simpa using h6, row_nine h7 a0 a1 a2 a3 a4 a5 a6 a7 a8 hy⟩
  · intro z hz
    have hz' : z ∈ P ++ [x] ++ Q ∨ z = y := by
      simp only [List.mem_append, List.mem_cons, List.not_mem_nil, or_false] at hz ⊢
      rcases hz with (hz | hz) | hz
      · exact .inl (.inl (.inl hz))
      · exact .inr hz
      · exact .inl (.inr hz)
    rcases hz' with hz | rfl
    · obtain ⟨r1, r2⟩ := h.rds z hz
      exact ⟨r1.keep hk hm, r2.keep hk hm⟩
    · exact ⟨hre.keep hk hm, hrf.keep hk hm⟩
/-- The kind, as far as it has been looked for. -/
def kindTo (L : List Tok) (i k : Nat) : Nat := if 2 ≤ kindAt L i ∧ kindAt L i < k then kindAt L i else 1
theorem kindTo_two (L : List Tok) (i : Nat) : kindTo L i 2 = 1 := by unfold kindTo; rw [if_neg (by omega)]
theorem kindTo_all (L : List Tok) (i : Nat) : kindTo L i 15 = kindAt L i := by
  unfold kindTo
  have := kind_range L i
  split <;> omega
theorem kindTo_yes {L : List Tok} {i k : Nat} (h1 : 2 ≤ k) (h2 : k ≤ 14) (h : isB L i (kwL (k : Nat)) = true) : kindTo L i (k + 1) = k := by
  have hk := kindAt_is h1 h2 (show isB L i (kwTab.getD k []) = true by simpa [kwL] using h)
  unfold kindTo
  rw [if_pos (by omega), hk]
theorem kindTo_no {L : List Tok} {i k : Nat} (h1 : 2 ≤ k) (h : isB L i (kwL (k : Nat)) = false) : kindTo L i (k + 1) = kindTo L i k := by
  have hk : kindAt L i ≠ k := by
    intro e
    rcases kind_spec L i with h3 | ⟨_, _, h3⟩
    · omega
    · rw [e] at h3
      have h4 : isB L i (kwTab.getD k []) = false := by simpa [kwL] using h
      rw [h3] at h4
      cases h4
  unfold kindTo
  by_cases hc : 2 ≤ kindAt L i ∧ kindAt L i < k
  · rw [if_pos hc, if_pos (by omega)]
  · rw [if_neg hc, if_neg (by omega)]
/-- What a statement leaves. -/
def DOnePost (L : List Tok) (W0 : World) (g : Nat) (lv : Value) (K : List Sv) (kv : Value) (w : World) (r : RS One) (e : Ending) (w' : World) : Prop :=
  e = .returned (.tuple #[]) ∧ ∃ K' kv', Sr L W0 g lv r.unit (K ++ K') kv' w' ∧ (∀ o j, r = .ok o j → K'.map (·.s) = o.s :: (o.b.flat ++ o.e.flat)) ∧ Onward kv kv' w ∧ KeepP (Mine g kv) w w'
def DOneSays (L : List Tok) (W0 : World) (g : Nat) (lv : Value) (row : Rows4) : Prop := ∀ (i d l : Nat) (K : List Sv) (kv : Value) (w : World) (r : RS One), Sr L W0 g lv (.ok () i) K kv w → K.length ≤ i → i ≤ L.length → d ≤ 12 → l ≤ d → oneW row L i d l = some r → Calls Tryz.prog 47 #[.pointer (some ⟨g, 0, none⟩), .int .i64 (d : Nat), .int .i64 (l : Nat)] w (DOnePost L W0 g lv K kv w r)
/-- What a block leaves, wherever the reader stands. -/
def DBlockPost (L : List Tok) (W0 : World) (g : Nat) (lv : Value) (K : List Sv) (kv : Value) (w : World) (r : RS Bk) (e : Ending) (w' : World) : Prop :=
  ∃ (n : Int) (K' : List Sv) (kv' : Value), e = .returned (.int .i64 n) ∧ Sr L W0 g lv r.unit (K ++ K') kv' w' ∧ (∀ b j, r = .ok b j → n = (b.count : Nat) ∧ K'.map (·.s) = b.flat) ∧ Onward kv kv' w ∧ KeepP (Mine g kv) w w'
/-- Where a block may begin. -/
def Begins (L : List Tok) (t : RS Unit) (K : List Sv) : Prop := ∀ u i, t = .ok u i → K.length ≤ i ∧ (i ≤ L.length ∨ K = [])
def DBlockSays (L : List Tok) (W0 : World) (g : Nat) (lv : Value) (row : Rows4) : Prop := ∀ (t : RS Unit) (d l : Nat) (K : List Sv) (kv : Value) (w : World) (r : RS Bk), Sr L W0 g lv t K kv w → Begins L t K → d ≤ 13 → l ≤ d → RS.obind (some t) (fun _ i => blockW row L i d l) = some r → Calls Tryz.prog 26 #[.pointer (some ⟨g, 0, none⟩), .int .i64 (d : Nat), .int .i64 (l : Nat)] w (DBlockPost L W0 g lv K kv w r)
theorem plain_els {k : Nat} {pl : Int} {i j : Nat} {s : Stm} (h : plainP L k pl i = .ok s j) : s.els = 0 ∧ s.body = 0 := by
  unfold plainP at h
  split at h
  · obtain ⟨_, _, _, h⟩ := bind_ok_inv h
    obtain ⟨_, _, _, h⟩ := bind_ok_inv h
    obtain ⟨_, _, _, h⟩ := bind_ok_inv h
    cases h
    exact ⟨rfl, rfl⟩
  split at h
  · obtain ⟨_, _, _, h⟩ := bind_ok_inv h
    obtain ⟨_, _, _, h⟩ := bind_ok_inv h
    obtain ⟨_, _, _, h⟩ := bind_ok_inv h
    cases h
    exact ⟨rfl, rfl⟩
  split at h
  · obtain ⟨_, _, _, h⟩ := bind_ok_inv h
    obtain ⟨_, _, _, h⟩ := bind_ok_inv h
    obtain ⟨_, _, _, h⟩ := bind_ok_inv h
    cases h
    exact ⟨rfl, rfl⟩
  split at h
  · obtain ⟨_, _, _, h⟩ := bind_ok_inv h
    obtain ⟨_, _, _, h⟩ := bind_ok_inv h
    obtain ⟨_, _, _, h⟩ := bind_ok_inv h
    obtain ⟨_, _, _, h⟩ := bind_ok_inv h
    obtain ⟨_, _, _, h⟩ := bind_ok_inv h
    obtain ⟨_, _, _, h⟩ := bind_ok_inv h
    obtain ⟨_, _, _, h⟩ := bind_ok_inv h
    cases h
    exact ⟨rfl, rfl⟩
  split at h
  · obtain ⟨_, _, _, h⟩ := bind_ok_inv h
    cases h
    exact ⟨rfl, rfl⟩
  split at h
  · obtain ⟨_, _, _, h⟩ := bind_ok_inv h
    cases h
    exact ⟨rfl, rfl⟩
  split at h
  · obtain ⟨_, _, _, h⟩ := bind_ok_inv h
    cases h
    exact ⟨rfl, rfl⟩
  · cases h
    exact ⟨rfl, rfl⟩
/-- The reader's plain at every kind. -/
theorem dplain_any {kn : Nat} (h1 : 1 ≤ kn) (h2 : kn ≤ 14) (hs : Src L W0 lv) {i : Nat} (h : Sr L W0 g lv (.ok () i) K kv w) (pl : Int) : Calls Tryz.prog 70 #[.pointer (some ⟨g, 0, none⟩), .int .i64 (kn : Nat), .int .i64 pl] w (PlainPost L W0 g lv (plainP L kn pl i) K kv w) := by
  have hk : kn = 1 ∨ kn = 2 ∨ kn = 3 ∨ kn = 4 ∨ kn = 5 ∨ kn = 6 ∨ kn = 7 ∨ kn = 8 ∨ kn = 9 ∨ kn = 10 ∨ kn = 11 ∨ kn = 12 ∨ kn = 13 ∨ kn = 14 := by omega
  rcases hk with rfl | rfl | rfl | rfl | rfl | rfl | rfl | rfl | rfl | rfl | rfl | rfl | rfl | rfl
  · exact dplain_1 hs h pl
  · exact dplain_2 hs h pl
  · exact dplain_3 hs h pl
  · exact dplain_4 hs h pl
  · exact dplain_5 hs h pl
  · exact dplain_6 hs h pl
  · exact dplain_7 hs h pl
  · exact dplain_8 hs h pl
  · exact dplain_9 hs h pl
  · exact dplain_10 hs h pl
  · exact dplain_11 hs h pl
  · exact dplain_12 hs h pl
  · exact dplain_13 hs h pl
  · exact dplain_14 hs h pl
end
end Go.Proofs.YtpeohfgadnfnpaaGreatDoor
