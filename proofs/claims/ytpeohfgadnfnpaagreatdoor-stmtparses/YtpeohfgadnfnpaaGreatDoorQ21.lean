/-
  DERIVED. Texts of the walk, packed: SCut, ShelfB.
-/
import Derived.Test.YtpeohfgadnfnpaaGreatDoorQ20
import Derived.Deep.RegionHeld3
import Derived.Deep.DrawnRows
import Derived.Shelf.Strings.Builder1
import Derived.Shelf.Strings.BuilderF
import Derived.Shelf.Strings.BuilderK
import Derived.Shelf.Strconv.Itoa0
import Derived.Shelf.Strconv.Itoa1
import Derived.Shelf.LaysM
import Derived.Shelf.Strconv.Itoa2
import Derived.Shelf.Strconv.Itoa3
import Derived.Shelf.Strings.Search1
import Derived.Shelf.Strings.Search2
import Derived.Shelf.Strings.Search3
import Derived.Shelf.Strings.Cut
import Derived.Shelf.Strings.Shaped
import Derived.Shelf.Strings.Fields
import Derived.Shelf.Unicode.Latin
import Derived.Shelf.Unicode.Is16White
import Derived.Shelf.Unicode.IsSpaceAny
import Derived.Shelf.Unicode.Is16Any
import Derived.Shelf.Unicode.Is32Any
import Derived.Shelf.Unicode.ExclAny
import Derived.Test.YtpeohfgadnfnpaaGreatDoorProg
/-
  DERIVED. Layer 4: contracts of stmt.Has and stmt.cut.
-/
namespace Go.Proofs.YtpeohfgadnfnpaaGreatDoor
open Go.RowKit

theorem hasL_owned {k : Nat} (h : k < 15) : hasL k = ownedT k := by
  have : ∀ k : Fin 15, hasL (k.1 : Int) = ownedT k.1 := by decide
  exact this ⟨k, h⟩
set_option maxRecDepth 100000 in
set_option maxHeartbeats 4000000 in
theorem shas_any (k : Int) (w : World) (ht : Tabs w) : Calls Tryz.prog 22 #[.int .i64 k] w (GivesSB (hasL k) w) := by
  by_cases h1 : k < 0
  · have hv : hasL k = [] := by unfold hasL; rw [if_neg (by omega)]
    rw [hv]
    go_enter Tryz.func22, Tryz.ntmps22
    go_wp2_with fail
    go_ret
    exact ⟨rfl, Below.refl _ _⟩
  · obtain ⟨n, rfl⟩ : ∃ n : Nat, k = n := ⟨k.toNat, by omega⟩
    by_cases h2 : n < 15
    · have hc := ht.own h2
      rw [hasL_owned h2]
      generalize ownedT n = t at *
      go_enter Tryz.func22, Tryz.ntmps22
      go_wp2_with fail
      go_ret
      exact ⟨rfl, Below.refl _ _⟩
    · have hv : hasL n = [] := by unfold hasL; rw [if_neg (by omega)]
      rw [hv]
      go_enter Tryz.func22, Tryz.ntmps22
      go_wp2_with fail
      go_ret
      exact ⟨rfl, Below.refl _ _⟩
/-- A part of a slice, at the address that a slice expression gives it. -/
theorem ReadSt.cutAt {w : World} {g o n c k j m d : Nat} {L M : List Stm} {A : Option Addr} (h : ReadSt w (.slice (some ⟨g, o, none⟩) n c) L) (hk : k ≤ j) (ht : j ≤ n) (hm : m = j - k) (hd : d = c - k) (hA : k < c → A = some ⟨g, o + k * 9, none⟩) (hM : M = (L.take j).drop k) : ReadSt w (.slice A m d) M := by
  subst hm hd hM
  by_cases hc : k < c
  · rw [hA hc]; exact h.part hk ht
  · obtain ⟨A', c', hv, hc', hm, hr⟩ := h
    simp only [Value.slice.injEq] at hv
    obtain ⟨rfl, rfl, rfl⟩ := hv
    have hz : ((L.take j).drop k).length = 0 := by rw [List.length_drop, List.length_take]; omega
    rw [List.length_eq_zero_iff.1 hz]
    refine ⟨A, c - k, by rw [show j - k = 0 from by omega]; rfl, Nat.zero_le _, by omega, fun i t h => by simp at h⟩
/-- What cut comes back with. -/
def Gives3 (L M N : List Stm) (w : World) (e : Ending) (w' : World) : Prop :=
  ∃ v1 v2 v3, e = .returned (.tuple #[v1, v2, v3]) ∧ ReadSt w' v1 L ∧ ReadSt w' v2 M ∧ ReadSt w' v3 N ∧ Below w.heap.size w w'
set_option maxRecDepth 100000 in
set_option maxHeartbeats 4000000 in
theorem cut_says (v : Value) (x : Stm) (r : List Stm) (w : World) (h : ReadSt w v (x :: r)) (hh : headOK x r.length) (hl : r.length ≤ 10000) : Calls Tryz.prog 54 #[v] w (Gives3 (bodyL x r) (elseL x r) (restL x r) w) := by
  have HL := Lib.hid h
  obtain ⟨A, c, rfl, hc, hm, hr⟩ := h
  obtain ⟨g, o, AE, nE, cE, AF, nF, cF, rfl, h9⟩ := hr 0 x rfl
  obtain ⟨lt9, x0, x1, x2, x3, x4, x5, x6, x7, x8, _, _⟩ := h9
  clear hr x0 x1 x2 x3 x4 x5 x8
  obtain ⟨h1, h2, h3, _⟩ := hh
  obtain ⟨b, hb⟩ : ∃ b : Nat, x.body = b := ⟨x.body.toNat, by omega⟩
  obtain ⟨e, he⟩ : ∃ e : Nat, x.els = e := ⟨x.els.toNat, by omega⟩
  rw [hb] at x6 h3
  rw [he] at x7 h3
  have HB := Lib.hid hb
  have HE := Lib.hid he
  clear hb he h1 h2
  have hlen : (x :: r).length = r.length + 1 := rfl
  rw [hlen] at hc ⊢
  have hbe : b + e ≤ r.length := by omega
  unfold maxLen at hm
  simp only [Nat.zero_mul, Nat.add_zero] at x6 x7
  have i1 : IntKind.i64.wrap (1 + (b : Int)) = 1 + b := IntWalk.i64_in _ (by omega)
  have i2 : IntKind.i64.wrap (1 + (b : Int) + e) = 1 + b + e := IntWalk.i64_in _ (by omega)
  go_enter Tryz.func54, Tryz.ntmps54
  go_wp2_with fail
  go_quiet (fail)
  generalize hA1 : (if c = 1 then some (⟨g, o, none⟩ : Addr) else some ⟨g, o + 9, none⟩) = A1
  generalize hA2 : (if c = 1 + b then some (⟨g, o, none⟩ : Addr) else some ⟨g, o + (1 + b) * 9, none⟩) = A2
  generalize hA3 : (if c = 1 + b + e then some (⟨g, o, none⟩ : Addr) else some ⟨g, o + (1 + b + e) * 9, none⟩) = A3
  have eb : x.body.toNat = b := by have := HB.out; omega
  have ee : x.els.toNat = e := by have := HE.out; omega
  have g1 : ReadSt w (.slice A1 (1 + b - 1) (c - 1)) (bodyL x r) := HL.out.cutAt (k := 1) (j := 1 + b) (by omega) (by rw [hlen]; omega) rfl rfl (fun hk => by rw [← hA1, if_neg (by omega), Nat.one_mul]) (by unfold bodyL; rw [eb, Nat.add_comm 1 b]; rfl)
  have g2 : ReadSt w (.slice A2 (1 + b + e - (1 + b)) (c - (1 + b))) (elseL x r) := HL.out.cutAt (k := 1 + b) (j := 1 + b + e) (by omega) (by rw [hlen]; omega) rfl rfl (fun hk => by rw [← hA2, if_neg (by omega)]) (by
    unfold elseL; rw [eb, ee, show 1 + b + e = (b + e) + 1 from by omega, Nat.add_comm 1 b]
    show _ = (r.take (b + e)).drop b
    rw [List.drop_take]; congr 1; omega)
  have g3 : ReadSt w (.slice A3 (r.length + 1 - (1 + b + e)) (c - (1 + b + e))) (restL x r) := HL.out.cutAt (k := 1 + b + e) (j := r.length + 1) (by omega) (by rw [hlen]; omega) rfl rfl (fun hk => by rw [← hA3, if_neg (by omega)]) (by
    unfold restL; rw [eb, ee, show 1 + b + e = (b + e) + 1 from by omega]
    show _ = ((r.take r.length).drop (b + e))
    rw [List.take_length])
  have G1 := Lib.hid g1
  have G2 := Lib.hid g2
  have G3 := Lib.hid g3
  clear g1 g2 g3 hA1 hA2 hA3
  go_wp2_with fail
  refine bodyPost_ret (v := .tuple #[.slice A1 (1 + b - 1) (c - 1), .slice A2 (1 + b + e - (1 + b)) (c - (1 + b)), .slice A3 (r.length + 1 - (1 + b + e)) (c - (1 + b + e))]) (by simp [results, Tryz.results54, go_sem]) rfl ?_
  exact ⟨_, _, _, rfl, G1.out.on (below_drew1 _ _), G2.out.on (below_drew1 _ _), G3.out.on (below_drew1 _ _), below_drew1 _ _⟩
end Go.Proofs.YtpeohfgadnfnpaaGreatDoor
/-
  DERIVED. Contracts of the guide laid at this program, in plain words.
-/
namespace Go.Proofs
open Go.Shelf
def Tryz.lays169_ren : Go.Shelf.Ren := ⟨fun | 169 => 63 | n => n, fun | 70 => 84 | 9 => 9 | 0 => 0 | 72 => 87 | 37 => 85 | 127 => 113 | 3 => 3 | 5 => 5 | n => n, fun | n => n⟩
theorem Tryz.lays169 : Go.Proofs.Lays.n169 Tryz.prog Tryz.lays169_ren := {
  mixed := by kernel_rfl
  f169 := Tryz.func63.trans (congrArg some (by kernel_rfl))
  t0 := Tryz.underlying0
  a0 := Tryz.isAgg0
  z0 := Tryz.sizeOf0
  v0 := Tryz.zeroValue0
  t3 := Tryz.underlying3
  a3 := Tryz.isAgg3
  z3 := Tryz.sizeOf3
  v3 := Tryz.zeroValue3
  t9 := Tryz.underlying9
  a9 := Tryz.isAgg9
  z9 := Tryz.sizeOf9
  v9 := Tryz.zeroValue9
  t37 := Tryz.underlying85
  a37 := Tryz.isAgg85
  z37 := Tryz.sizeOf85
  v37 := Tryz.zeroValue85
  t70 := Tryz.underlying84
  a70 := Tryz.isAgg84
  z70 := Tryz.sizeOf84
  v70 := Tryz.zeroValue84
  t72 := Tryz.underlying87
  a72 := Tryz.isAgg87
  z72 := Tryz.sizeOf87
  v72 := Tryz.zeroValue87
  t127 := Tryz.underlying113
  a127 := Tryz.isAgg113
  z127 := Tryz.sizeOf113
  v127 := Tryz.zeroValue113 }
theorem Tryz.Builder_Extra_169 : Builder.Extra Tryz.prog Tryz.lays169_ren := {
  sizeBuilder := by kernel_rfl
  liesBuilder := by kernel_rfl
  t5 := Tryz.underlying5
  a5 := Tryz.isAgg5
  z5 := Tryz.sizeOf5
  v5 := Tryz.zeroValue5
  infoByte := by kernel_rfl
  cellsByte := by kernel_rfl
  sizeByte := by kernel_rfl
  neB5 := by decide }
open Go.RowKit in
theorem Tryz.Builder_String_any (B b : Nat) (l : List UInt8) (w : World) (h : Lib.IsBuilder 87 5 B b (Lib.byteCells l) w) (hBw : B ≤ w.heap.size) :
    Calls Tryz.prog 63 #[.pointer (some ⟨b, 0, none⟩)] w fun e w' => e = .returned (.string ⟨l.toArray⟩) ∧ Below B w w' := Any.Builder_String_any Tryz.lays169 Tryz.Builder_Extra_169 B b l w h hBw
open Go.RowKit in
theorem Tryz.Builder_String_any_k (B b : Nat) (l : List UInt8) (w : World) (h : Lib.IsBuilderF 87 5 B b (Lib.byteCells l) w) (hBw : B ≤ w.heap.size) :
    Calls Tryz.prog 63 #[.pointer (some ⟨b, 0, none⟩)] w fun e w' => e = .returned (.string ⟨l.toArray⟩) ∧ (Lib.IsBuilderF 87 5 B b (Lib.byteCells l) w' ∧ Below B w w' ∧ Lib.OthersKept 5 (some b) w w') := Any.Builder_String_any_k Tryz.lays169 Tryz.Builder_Extra_169 B b l w h hBw
def Tryz.lays219_ren : Go.Shelf.Ren := ⟨fun | 219 => 117 | 217 => 131 | 225 => 132 | 224 => 133 | 267 => 134 | 266 => 142 | 314 => 143 | n => n, fun | 9 => 9 | 3 => 3 | 4 => 4 | 5 => 5 | 46 => 146 | 146 => 169 | 51 => 134 | n => n, fun | 1 => 4 | n => n⟩
theorem Tryz.lays219 : Go.Proofs.Lays.n219 Tryz.prog Tryz.lays219_ren := {
  mixed := by kernel_rfl
  f217 := Tryz.func131.trans (congrArg some (by kernel_rfl))
  f219 := Tryz.func117.trans (congrArg some (by kernel_rfl))
  f224 := Tryz.func133.trans (congrArg some (by kernel_rfl))
  f225 := Tryz.func132.trans (congrArg some (by kernel_rfl))
  f266 := Tryz.func142.trans (congrArg some (by kernel_rfl))
  f267 := Tryz.func134.trans (congrArg some (by kernel_rfl))
  f314 := Tryz.func143.trans (congrArg some (by kernel_rfl))
  t3 := Tryz.underlying3
  a3 := Tryz.isAgg3
  z3 := Tryz.sizeOf3
  v3 := Tryz.zeroValue3
  t4 := Tryz.underlying4
  a4 := Tryz.isAgg4
  z4 := Tryz.sizeOf4
  v4 := Tryz.zeroValue4
  t5 := Tryz.underlying5
  a5 := Tryz.isAgg5
  z5 := Tryz.sizeOf5
  v5 := Tryz.zeroValue5
  t9 := Tryz.underlying9
  a9 := Tryz.isAgg9
  z9 := Tryz.sizeOf9
  v9 := Tryz.zeroValue9
  t46 := Tryz.underlying146
  a46 := Tryz.isAgg146
  z46 := Tryz.sizeOf146
  v46 := Tryz.zeroValue146
  t51 := Tryz.underlying134
  a51 := Tryz.isAgg134
  z51 := Tryz.sizeOf134
  v51 := Tryz.zeroValue134
  t146 := Tryz.underlying169
  a146 := Tryz.isAgg169
  z146 := Tryz.sizeOf169
  v146 := Tryz.zeroValue169
  g1 := by kernel_rfl }
open Go.RowKit Go.Lib in
theorem Tryz.stringslite_Index_one (s : ByteArray) (c : UInt8) (w : World) :
    Calls Tryz.prog 117 #[.string s, .string ⟨#[c]⟩] w fun e w' => e = .returned (.int .i64 (Lib.indexByte s.data.toList c)) ∧ w' = w := Any.stringslite_Index_one Tryz.lays219 s c w
def Tryz.lays144_ren : Go.Shelf.Ren := ⟨fun | 144 => 55 | 143 => 89 | 219 => 117 | 217 => 131 | 225 => 132 | 224 => 133 | 267 => 134 | 266 => 142 | 314 => 143 | n => n, fun | 9 => 9 | 4 => 4 | 3 => 3 | 5 => 5 | 46 => 146 | 146 => 169 | 51 => 134 | n => n, fun | 1 => 4 | n => n⟩
theorem Tryz.lays144 : Go.Proofs.Lays.n144 Tryz.prog Tryz.lays144_ren := {
  mixed := by kernel_rfl
  f143 := Tryz.func89.trans (congrArg some (by kernel_rfl))
  f144 := Tryz.func55.trans (congrArg some (by kernel_rfl))
  f217 := Tryz.func131.trans (congrArg some (by kernel_rfl))
  f219 := Tryz.func117.trans (congrArg some (by kernel_rfl))
  f224 := Tryz.func133.trans (congrArg some (by kernel_rfl))
  f225 := Tryz.func132.trans (congrArg some (by kernel_rfl))
  f266 := Tryz.func142.trans (congrArg some (by kernel_rfl))
  f267 := Tryz.func134.trans (congrArg some (by kernel_rfl))
  f314 := Tryz.func143.trans (congrArg some (by kernel_rfl))
  t3 := Tryz.underlying3
  a3 := Tryz.isAgg3
  z3 := Tryz.sizeOf3
  v3 := Tryz.zeroValue3
  t4 := Tryz.underlying4
  a4 := Tryz.isAgg4
  z4 := Tryz.sizeOf4
  v4 := Tryz.zeroValue4
  t5 := Tryz.underlying5
  a5 := Tryz.isAgg5
  z5 := Tryz.sizeOf5
  v5 := Tryz.zeroValue5
  t9 := Tryz.underlying9
  a9 := Tryz.isAgg9
  z9 := Tryz.sizeOf9
  v9 := Tryz.zeroValue9
  t46 := Tryz.underlying146
  a46 := Tryz.isAgg146
  z46 := Tryz.sizeOf146
  v46 := Tryz.zeroValue146
  t51 := Tryz.underlying134
  a51 := Tryz.isAgg134
  z51 := Tryz.sizeOf134
  v51 := Tryz.zeroValue134
  t146 := Tryz.underlying169
  a146 := Tryz.isAgg169
  z146 := Tryz.sizeOf169
  v146 := Tryz.zeroValue169
  g1 := by kernel_rfl }
open Go.RowKit Go.Lib in
theorem Tryz.strings_Contains_one (s : ByteArray) (c : UInt8) (w : World) :
    Calls Tryz.prog 55 #[.string s, .string ⟨#[c]⟩] w fun e w' => e = .returned (.bool (decide (0 ≤ Lib.indexByte s.data.toList c))) ∧ w' = w := Any.strings_Contains_one Tryz.lays144 s c w
def Tryz.lays157_ren : Go.Shelf.Ren := ⟨fun | 157 => 60 | 229 => 94 | 199 => 95 | 261 => 120 | 311 => 135 | 312 => 136 | n => n, fun | 9 => 9 | 31 => 66 | 3 => 3 | 5 => 5 | 4 => 4 | 119 => 109 | 0 => 0 | 40 => 111 | 152 => 131 | 21 => 21 | 154 => 133 | 51 => 134 | 141 => 136 | 196 => 150 | 193 => 147 | 198 => 153 | 49 => 151 | 194 => 148 | 201 => 156 | 226 => 171 | 46 => 146 | 227 => 172 | n => n, fun | 0 => 2 | 6 => 3 | n => n⟩
theorem Tryz.lays157 : Go.Proofs.Lays.n157 Tryz.prog Tryz.lays157_ren := {
  mixed := by kernel_rfl
  f157 := Tryz.func60.trans (congrArg some (by kernel_rfl))
  f199 := Tryz.func95.trans (congrArg some (by kernel_rfl))
  f229 := Tryz.func94.trans (congrArg some (by kernel_rfl))
  f261 := Tryz.func120.trans (congrArg some (by kernel_rfl))
  f311 := Tryz.func135.trans (congrArg some (by kernel_rfl))
  f312 := Tryz.func136.trans (congrArg some (by kernel_rfl))
  t0 := Tryz.underlying0
  a0 := Tryz.isAgg0
  z0 := Tryz.sizeOf0
  v0 := Tryz.zeroValue0
  t3 := Tryz.underlying3
  a3 := Tryz.isAgg3
  z3 := Tryz.sizeOf3
  v3 := Tryz.zeroValue3
  t4 := Tryz.underlying4
  a4 := Tryz.isAgg4
  z4 := Tryz.sizeOf4
  v4 := Tryz.zeroValue4
  t5 := Tryz.underlying5
  a5 := Tryz.isAgg5
  z5 := Tryz.sizeOf5
  v5 := Tryz.zeroValue5
  t9 := Tryz.underlying9
  a9 := Tryz.isAgg9
  z9 := Tryz.sizeOf9
  v9 := Tryz.zeroValue9
  t21 := Tryz.underlying21
  a21 := Tryz.isAgg21
  z21 := Tryz.sizeOf21
  v21 := Tryz.zeroValue21
  t31 := Tryz.underlying66
  a31 := Tryz.isAgg66
  z31 := Tryz.sizeOf66
  v31 := Tryz.zeroValue66
  t40 := Tryz.underlying111
  a40 := Tryz.isAgg111
  z40 := Tryz.sizeOf111
  v40 := Tryz.zeroValue111
  t46 := Tryz.underlying146
  a46 := Tryz.isAgg146
  z46 := Tryz.sizeOf146
  v46 := Tryz.zeroValue146
  t49 := Tryz.underlying151
  a49 := Tryz.isAgg151
  z49 := Tryz.sizeOf151
  v49 := Tryz.zeroValue151
  t51 := Tryz.underlying134
  a51 := Tryz.isAgg134
  z51 := Tryz.sizeOf134
  v51 := Tryz.zeroValue134
  t119 := Tryz.underlying109
  a119 := Tryz.isAgg109
  z119 := Tryz.sizeOf109
  t141 := Tryz.underlying136
  a141 := Tryz.isAgg136
  z141 := Tryz.sizeOf136
  v141 := Tryz.zeroValue136
  t152 := Tryz.underlying131
  a152 := Tryz.isAgg131
  z152 := Tryz.sizeOf131
  v152 := Tryz.zeroValue131
  t154 := Tryz.underlying133
  a154 := Tryz.isAgg133
  z154 := Tryz.sizeOf133
  v154 := Tryz.zeroValue133
  t193 := Tryz.underlying147
  a193 := Tryz.isAgg147
  z193 := Tryz.sizeOf147
  v193 := Tryz.zeroValue147
  t194 := Tryz.underlying148
  a194 := Tryz.isAgg148
  z194 := Tryz.sizeOf148
  v194 := Tryz.zeroValue148
  t196 := Tryz.underlying150
  a196 := Tryz.isAgg150
  z196 := Tryz.sizeOf150
  v196 := Tryz.zeroValue150
  t198 := Tryz.underlying153
  a198 := Tryz.isAgg153
  z198 := Tryz.sizeOf153
  v198 := Tryz.zeroValue153
  t201 := Tryz.underlying156
  a201 := Tryz.isAgg156
  z201 := Tryz.sizeOf156
  v201 := Tryz.zeroValue156
  t226 := Tryz.underlying171
  a226 := Tryz.isAgg171
  z226 := Tryz.sizeOf171
  v226 := Tryz.zeroValue171
  t227 := Tryz.underlying172
  a227 := Tryz.isAgg172
  z227 := Tryz.sizeOf172
  v227 := Tryz.zeroValue172
  g0 := by kernel_rfl
  g6 := by kernel_rfl }
open Go.RowKit Go.Lib in
theorem Tryz.strings_Fields (s : ByteArray) (w : World) (hs : s.size < 4294967281) (hascii : ∀ (j : Nat) b, s.data.toList[j]? = some b → b.toNat < 128) (htab : Lib.TabIs Tryz.prog w "strings.asciiSpace" .u8 Lib.asciiSpaceTab) :
    Calls Tryz.prog 60 #[.string s] w fun e w' =>
      e = .returned (.slice (some ⟨w.heap.size, 0, none⟩) (Lib.fields s.data.toList).length (Lib.fields s.data.toList).length) ∧ w' = w.alloc (.cells ((Lib.fields s.data.toList).map fun l => Value.string ⟨l.toArray⟩).toArray 9) := Any.strings_Fields Tryz.lays157 (by kernel_rfl) (by kernel_rfl) s w hs hascii htab
end Go.Proofs
