/- Texts of the walk, packed. -/
import Derived.Test.YthfkpalfopdmhaaGreatDoorY30
import Derived.Test.YthfkpalfopdmhaaGreatDoorY05
import Derived.Test.YthfkpalfopdmhaaGreatDoorY20
import Derived.Test.YthfkpalfopdmhaaGreatDoorY11
import Derived.Test.YthfkpalfopdmhaaGreatDoorY16
import Derived.Test.YthfkpalfopdmhaaGreatDoorY28
import Derived.Test.YthfkpalfopdmhaaGreatDoorY23
import Derived.Test.YthfkpalfopdmhaaGreatDoorY00
namespace Go.Proofs.YthfkpalfopdmhaaGreatDoor
open Go.RowKit
def Enters (F:Nat):Prop:=∀(args:Array Value) (w:World),(callFunc F args).run Tryz.prog w=.ok (.enter F args) w
theorem QO {α:Type} {p:α→Bool} {L:List α} {k:Nat} {a:α} (h:L[k]?=some a) (ha:(L.take k).all p=true) (hp:p a=true):(L.take (k+1)).all p=true:=by
 rw[List.take_add_one,h,List.all_append,ha];simp[hp]
theorem QP {α:Type} {p:α→Bool} {L:List α} {k:Nat} {a:α} (h:L[k]?=some a) (hp:p a=false):L.all p=false:=by
 rw[List.all_eq_false];exact⟨a,List.mem_of_getElem? h,by simp[hp]⟩
def QQ (b:Bool) (w:World) (e:Ending) (w':World):Prop:=∃n:Int,e=.returned (.int .i64 n)∧decide (0≤n)=b∧Below w.heap.size w w'
def FY (ts:List (List UInt8)):List UInt8:=Lib.join ts [44,32]
def GF (wd:List UInt8) (ts:List (List UInt8)):List UInt8:=if ts.isEmpty then[]else wd++(32::(FY ts++[59,10]))
theorem MG (a b:List UInt8) (l:List (List UInt8)):FY (a::b::l)=a++([44,32]++FY (b::l)):=by
 simp[FY,Lib.join,List.intercalate,List.intersperse]
theorem LW (a:List UInt8):FY [a]=a:=by simp[FY,Lib.join,List.intercalate]
theorem Qd:∀l,namesT l=FY l
 |[]=>rfl
 |[a]=>(LW a).symm
 |a::b::l=>by rw[MG,←Qd (b::l)];rfl
theorem Ry:∀l:List Cel,Ja l=FY (l.map EY)
 |[]=>rfl
 |[a]=>(LW (EY a)).symm
 |a::b::l=>by
  have:=Ry (b::l)
  rw[List.map_cons]at this
  rw[List.map_cons,List.map_cons,MG,←this]
  rfl
theorem Z0 {ts:List (List UInt8)} {v:Value} {w:World} {B:Nat} (h:C9 w B v ts) (hl:(FY ts).length≤1000000000) (hn:ts.length≤1000000) (hp:0<ts.length):
  Calls Tryz.prog 115 #[v,.string ⟨#[44,32]⟩] w (CG (FY ts) w):=by
 obtain⟨A,c,rfl,h1,h2,h3⟩:=h.reads
 obtain⟨g,hA,_,hg,_⟩:=h3 0 ts[0] (List.getElem?_eq_getElem hp)
 subst hA
 have hm:(ts.map (fun t=>(⟨t.toArray⟩:ByteArray))).map (·.data.toList)=ts:=by
  rw[List.map_map]
  exact List.map_id'' (fun t=>rfl) ts
 have hk:(ts.map (fun t=>(⟨t.toArray⟩:ByteArray))).length=ts.length:=List.length_map _
 have:=Tryz.strings_Join g 0 c (ts.map (fun t=>(⟨t.toArray⟩:ByteArray))) ⟨#[44,32]⟩ w (fun j x hx=>by
  rw[List.getElem?_map]at hx
  obtain⟨t,ht,rfl⟩:=Option.map_eq_some_iff.1 hx
  obtain⟨g2,hA2,_,_,hc⟩:=h3 j t ht
  cases hA2
  rw[Nat.zero_add]
  exact hc) hg (by rw[hk];omega) (by rw[hk];exact h1) (by rw[hm];exact Nat.le_trans hl (by decide))
 rw[hk,hm]at this
 exact this
set_option maxRecDepth 100000 in
set_option maxHeartbeats 4000000 in
theorem K7 (wd:List UInt8) {ts:List (List UInt8)} {v:Value} {w:World} {B:Nat} (h:C9 w B v ts) (hl:(FY ts).length≤1000000000) (hn:ts.length≤1000000) (hw:wd.length≤100):
  Calls Tryz.prog 57 #[.string ⟨wd.toArray⟩,v] w (CG (GF wd ts) w):=by
 have HO:=AA h
 obtain⟨A,c,rfl,h1,h2,h3⟩:=h.reads
 clear h h3
 cases hts:ts with
 |nil=>
  subst hts
  go_enter Tryz.func57,Tryz.ntmps57
  go_wp2_with fail
  go_ret
  exact Bv rfl rfl (Below.refl _ _)
 |cons a l=>
  have hp:0<ts.length:=by rw[hts];simp
  have HE:Hid (GF wd ts=wd++[32]++FY ts++[59,10]):=AA (by rw[hts];simp[GF])
  have HL:=AA hl
  have HP:=AA hp
  rw[←hts]
  clear hts
  have hne:¬((ts.length:Int)=0):=by omega
  have hcat1:¬(9223372036854775807<wd.length+1):=by omega
  have hcat2:¬(9223372036854775807<wd.length+1+(FY ts).length):=by omega
  have hcat3:¬(9223372036854775807<wd.length+1+(FY ts).length+2):=by omega
  have HC:=AA (Z0 HO.out hl hn hp)
  generalize FY ts=J at *
  clear HO HL
  go_enter Tryz.func57,Tryz.ntmps57
  go_wp2_with fail
  refine HC.out.mono ?_
  rintro e1 w1 ⟨rfl,hb⟩
  have HB1:=AA hb
  clear hb
  go_wp2_with fail
  go_ret
  exact Bv (l':=wd++[32]++J++[59,10]) (by rw[←Cb,←Cb,←Cb];rfl) HE.out.symm HB1.out
end Go.Proofs.YthfkpalfopdmhaaGreatDoor
namespace Go.Proofs.YthfkpalfopdmhaaGreatDoor
open Go
theorem Rz {x:Stm} (h:Dy x=true):GV x:=by
 obtain⟨h1,h2,_,_,h5,h6,_⟩:=Xf h
 exact⟨by omega,by omega,h5.1,h6.1,h5.2,h6.2⟩
theorem NR {L:List Stm} (h:CJ L=true):∀x∈L,GV x:=by
 obtain⟨b,rfl,g1,_⟩:=DX h
 exact fun x hx=>Rz (List.all_eq_true.1 g1.2 x hx)
end Go.Proofs.YthfkpalfopdmhaaGreatDoor
namespace Go.Proofs.YthfkpalfopdmhaaGreatDoor
open Go.RowKit
set_option maxRecDepth 100000 in
set_option maxHeartbeats 2000000 in
theorem QDo {F:Nat} (eg:Enters F) {q:Bool} {bx:Nat} {w:World} {x:Cel} (hbx:w.cell? ⟨bx,0,none⟩=some (.func (.func F) #[] #[])) (hl:bx<w.heap.size)
  (hF:∀w',Below w.heap.size w w'→Calls Tryz.prog F #[.agg #[.string ⟨x.name.toArray⟩,.int .i64 x.n,.int .i64 x.pl]] w' (AN q w')):Calls Tryz.prog 102 #[.agg #[.string ⟨x.name.toArray⟩,.int .i64 x.n,.int .i64 x.pl],.pointer (some ⟨bx,0,none⟩)] w (AN (!q) w):=by
 unfold Enters at eg
 have HF:=AA hF
 clear hF
 go_enter Tryz.func102,Tryz.ntmps102
 go_wp2_with fail
 refine(HF.out _ ((Below.refl _ _).alloc (Nat.le_refl _) _)).mono ?_
 rintro e w1 ⟨rfl,hb⟩
 have HB:=AA (Gl hb)
 clear hb
 go_wp2_with fail
 go_ret
 exact⟨rfl,HB.out⟩
set_option maxRecDepth 100000 in
set_option maxHeartbeats 2000000 in
theorem QDp {F:Nat} (eg:Enters F) {p:Cel→Bool} {L:List Cel} {v:Value} {w:World} {B bx:Nat} (h:CX w B v L) (hl:L.length≤100000) (hbx:w.cell? ⟨bx,0,none⟩=some (.func (.func F) #[] #[])) (hlb:bx<w.heap.size)
  (hF:∀x∈L,∀w',Below w.heap.size w w'→Calls Tryz.prog F #[.agg #[.string ⟨x.name.toArray⟩,.int .i64 x.n,.int .i64 x.pl]] w' (AN (p (x)) w')):Calls Tryz.prog 150 #[v,.func (.func 102) #[] #[.pointer (some ⟨bx,0,none⟩)]] w (QQ (!L.all (fun x=>p (x))) w):=by
 have HF:=AA hF
 have HO:=AA h
 have HG:=AA eg
 have HX:=AA hbx
 obtain⟨A,c,hv,hc,hm,hr⟩:=h.reads
 subst hv
 clear hr hF eg hbx
 go_enter Tryz.func150,Tryz.ntmps150
 go_wp2_with fail
 go_loopw [8] (fun i wr=>∃k:Nat,k≤L.length∧i=.int .i64 k∧(L.take k).all (fun x=>p (x))=true∧Below w.heap.size w wr) (fun i _=>L.length-(intOf i).toNat)
 case atStart=>exact⟨0,Nat.zero_le _,rfl,rfl,Below.refl _ _⟩
 case round=>
  obtain⟨k,hk,rfl,ha,hb⟩:=hrel
  have HA:=AA ha
  have HB:=AA hb
  clear ha
  by_cases hlt:k<L.length
  ·have hat:L[k]?=some L[k]:=List.getElem?_eq_getElem hlt
   have hin:=List.getElem_mem hlt
   generalize L[k]=a at *
   obtain⟨A',c',hv',_,_,hr'⟩:=(HO.out.on hb).reads
   obtain⟨rfl,_,rfl⟩:A=A'∧True∧c=c':=by simpa using hv'
   obtain⟨g,rfl,hgB,hg,x0,x1,x2⟩:=hr' k a hat
   clear hr' hv' hgB
   have HC:Hid (Calls Tryz.prog 102 #[.agg #[.string ⟨a.name.toArray⟩,.int .i64 a.n,.int .i64 a.pl],.pointer (some ⟨bx,0,none⟩)] wr (AN (!p (a)) wr)):=AA (QDo HG.out ((hb.cell (p:=⟨bx,0,none⟩) hlb).trans HX.out) (by have:=hb.size;omega) (fun w' h'=>HF.out a hin w' (AC hb h')))
   clear hb
   cases hw:p (a)with
   |true=>
    have HN:=AA (QO (p:=fun x=>p (x)) hat HA.out hw)
    have HW:=AA hw
    clear hat hw
    go_wp2_with fail
    refine HC.out.mono ?_
    rw[HW.out]
    rintro e w1 ⟨rfl,hb⟩
    have HB2:=AA (AC HB.out hb)
    clear hb
    go_wp2_with fail
    go_roundw
    case rel=>exact⟨k+1,by omega,by go_num,HN.out,HB2.out⟩
    case measure=>simp[intOf];omega
   |false=>
    have HN:=AA (QP (p:=fun x=>p (x)) hat hw)
    have HW:=AA hw
    clear hat hw
    go_wp2_with fail
    refine HC.out.mono ?_
    rw[HW.out]
    rintro e w1 ⟨rfl,hb⟩
    have HB2:=AA (AC HB.out hb)
    clear hb
    go_wp2_with fail
    go_ret
    exact⟨k,rfl,by rw[HN.out];simp,HB2.out⟩
  ·go_wp2_with fail
   go_ret
   have h1:=HA.out
   rw[List.take_of_length_le (by omega)]at h1
   exact⟨-1,rfl,by rw[h1];rfl,HB.out⟩
set_option maxRecDepth 100000 in
set_option maxHeartbeats 2000000 in
theorem QB9 {F:Nat} (eg:Enters F) {p:Cel→Bool} {L:List Cel} {v:Value} {w:World} {B bx:Nat} (h:CX w B v L) (hl:L.length≤100000) (hbx:w.cell? ⟨bx,0,none⟩=some (.func (.func F) #[] #[])) (hlb:bx<w.heap.size)
  (hF:∀x∈L,∀w',Below w.heap.size w w'→Calls Tryz.prog F #[.agg #[.string ⟨x.name.toArray⟩,.int .i64 x.n,.int .i64 x.pl]] w' (AN (p (x)) w')):Calls Tryz.prog 101 #[v,.func (.func 102) #[] #[.pointer (some ⟨bx,0,none⟩)]] w (AN (!L.all (fun x=>p (x))) w):=by
 have HI:=AA (QDp eg h hl hbx hlb hF)
 clear h hF eg hbx
 go_enter Tryz.func101,Tryz.ntmps101
 go_wp2_with fail
 refine HI.out.mono ?_
 rintro e w1 ⟨n,rfl,hn,hb⟩
 have HB:=AA hb
 have HN:=AA hn
 clear hb hn
 go_wp2_with fail
 go_ret
 exact⟨AH HN.out,HB.out⟩
set_option maxRecDepth 100000 in
set_option maxHeartbeats 2000000 in
theorem Tn {F:Nat} (eg:Enters F) (p:Cel→Bool) {L:List Cel} {v:Value} {w:World} {B:Nat} (h:CX w B v L) (hl:L.length≤100000)
  (hF:∀x∈L,∀w',Below w.heap.size w w'→Calls Tryz.prog F #[.agg #[.string ⟨x.name.toArray⟩,.int .i64 x.n,.int .i64 x.pl]] w' (AN (p (x)) w')):Calls Tryz.prog 44 #[v,.func (.func F) #[] #[]] w (AN (L.all (fun x=>p (x))) w):=by
 have HB0:Hid (Below w.heap.size w (w.alloc (.cells #[.func (.func F) #[] #[]] 82))):=AA ((Below.refl _ _).alloc (Nat.le_refl _) _)
 have HI:Hid (Calls Tryz.prog 101 #[v,.func (.func 102) #[] #[.pointer (some ⟨w.heap.size,0,none⟩)]] (w.alloc (.cells #[.func (.func F) #[] #[]] 82)) (AN (!L.all (fun x=>p (x))) (w.alloc (.cells #[.func (.func F) #[] #[]] 82)))):=
  AA (QB9 eg (h.on HB0.out) hl (by simp) (by simp) (fun x hx w' h'=>hF x hx w' (AC HB0.out h')))
 clear h hF eg
 go_enter Tryz.func44,Tryz.ntmps44
 go_wp2_with fail
 refine HI.out.mono ?_
 rintro e w1 ⟨rfl,hb⟩
 have HB:=AA (AC HB0.out hb)
 clear hb
 go_wp2_with fail
 go_ret
 exact⟨AH (by simp),HB.out⟩
set_option maxRecDepth 100000 in
set_option maxHeartbeats 2000000 in
theorem QDq {F:Nat} (eg:Enters F) {q:Bool} {bx:Nat} {w:World} {x:Lv} (hbx:w.cell? ⟨bx,0,none⟩=some (.func (.func F) #[] #[])) (_hl:bx<w.heap.size)
  (hF:∀w',Below w.heap.size w w'→Calls Tryz.prog F #[x.v] w' (AN q w')):Calls Tryz.prog 100 #[x.v,.pointer (some ⟨bx,0,none⟩)] w (AN (!q) w):=by
 unfold Enters at eg
 have HF:=AA hF
 clear hF
 go_enter Tryz.func100,Tryz.ntmps100
 go_wp2_with fail
 refine(HF.out _ (Below.refl _ _)).mono ?_
 rintro e w1 ⟨rfl,hb⟩
 have HB:=AA hb
 clear hb
 go_wp2_with fail
 go_ret
 exact⟨rfl,HB.out⟩
set_option maxRecDepth 100000 in
set_option maxHeartbeats 2000000 in
theorem QDr {F:Nat} (eg:Enters F) {p:List Cel→Bool} {L:List Lv} {v:Value} {w:World} {B bx:Nat} (h:E9 w B v L) (hl:L.length≤100000) (hbx:w.cell? ⟨bx,0,none⟩=some (.func (.func F) #[] #[])) (hlb:bx<w.heap.size)
  (hF:∀x∈L,∀w',Below w.heap.size w w'→Calls Tryz.prog F #[x.v] w' (AN (p (x.l)) w')):Calls Tryz.prog 149 #[v,.func (.func 100) #[] #[.pointer (some ⟨bx,0,none⟩)]] w (QQ (!L.all (fun x=>p (x.l))) w):=by
 have HF:=AA hF
 have HO:=AA h
 have HG:=AA eg
 have HX:=AA hbx
 obtain⟨A,c,hv,hc,hm,hr⟩:=h.reads
 subst hv
 clear hr hF eg hbx
 go_enter Tryz.func149,Tryz.ntmps149
 go_wp2_with fail
 go_loopw [8] (fun i wr=>∃k:Nat,k≤L.length∧i=.int .i64 k∧(L.take k).all (fun x=>p (x.l))=true∧Below w.heap.size w wr) (fun i _=>L.length-(intOf i).toNat)
 case atStart=>exact⟨0,Nat.zero_le _,rfl,rfl,Below.refl _ _⟩
 case round=>
  obtain⟨k,hk,rfl,ha,hb⟩:=hrel
  have HA:=AA ha
  have HB:=AA hb
  clear ha
  by_cases hlt:k<L.length
  ·have hat:L[k]?=some L[k]:=List.getElem?_eq_getElem hlt
   have hin:=List.getElem_mem hlt
   generalize L[k]=a at *
   obtain⟨A',c',hv',_,_,hr'⟩:=(HO.out.on hb).reads
   obtain⟨rfl,_,rfl⟩:A=A'∧True∧c=c':=by simpa using hv'
   obtain⟨g,rfl,hgB,hg,x0⟩:=hr' k a hat
   clear hr' hv' hgB
   have HC:Hid (Calls Tryz.prog 100 #[a.v,.pointer (some ⟨bx,0,none⟩)] wr (AN (!p (a.l)) wr)):=AA (QDq HG.out ((hb.cell (p:=⟨bx,0,none⟩) hlb).trans HX.out) (by have:=hb.size;omega) (fun w' h'=>HF.out a hin w' (AC hb h')))
   clear hb
   cases hw:p (a.l)with
   |true=>
    have HN:=AA (QO (p:=fun x=>p (x.l)) hat HA.out hw)
    have HW:=AA hw
    clear hat hw
    go_wp2_with fail
    refine HC.out.mono ?_
    rw[HW.out]
    rintro e w1 ⟨rfl,hb⟩
    have HB2:=AA (AC HB.out hb)
    clear hb
    go_wp2_with fail
    go_roundw
    case rel=>exact⟨k+1,by omega,by go_num,HN.out,HB2.out⟩
    case measure=>simp[intOf];omega
   |false=>
    have HN:=AA (QP (p:=fun x=>p (x.l)) hat hw)
    have HW:=AA hw
    clear hat hw
    go_wp2_with fail
    refine HC.out.mono ?_
    rw[HW.out]
    rintro e w1 ⟨rfl,hb⟩
    have HB2:=AA (AC HB.out hb)
    clear hb
    go_wp2_with fail
    go_ret
    exact⟨k,rfl,by rw[HN.out];simp,HB2.out⟩
  ·go_wp2_with fail
   go_ret
   have h1:=HA.out
   rw[List.take_of_length_le (by omega)]at h1
   exact⟨-1,rfl,by rw[h1];rfl,HB.out⟩
set_option maxRecDepth 100000 in
set_option maxHeartbeats 2000000 in
theorem QCA {F:Nat} (eg:Enters F) {p:List Cel→Bool} {L:List Lv} {v:Value} {w:World} {B bx:Nat} (h:E9 w B v L) (hl:L.length≤100000) (hbx:w.cell? ⟨bx,0,none⟩=some (.func (.func F) #[] #[])) (hlb:bx<w.heap.size)
  (hF:∀x∈L,∀w',Below w.heap.size w w'→Calls Tryz.prog F #[x.v] w' (AN (p (x.l)) w')):Calls Tryz.prog 99 #[v,.func (.func 100) #[] #[.pointer (some ⟨bx,0,none⟩)]] w (AN (!L.all (fun x=>p (x.l))) w):=by
 have HI:=AA (QDr eg h hl hbx hlb hF)
 clear h hF eg hbx
 go_enter Tryz.func99,Tryz.ntmps99
 go_wp2_with fail
 refine HI.out.mono ?_
 rintro e w1 ⟨n,rfl,hn,hb⟩
 have HB:=AA hb
 have HN:=AA hn
 clear hb hn
 go_wp2_with fail
 go_ret
 exact⟨AH HN.out,HB.out⟩
set_option maxRecDepth 100000 in
set_option maxHeartbeats 2000000 in
theorem QDs {F:Nat} (eg:Enters F) (p:List Cel→Bool) {L:List Lv} {v:Value} {w:World} {B:Nat} (h:E9 w B v L) (hl:L.length≤100000)
  (hF:∀x∈L,∀w',Below w.heap.size w w'→Calls Tryz.prog F #[x.v] w' (AN (p (x.l)) w')):Calls Tryz.prog 42 #[v,.func (.func F) #[] #[]] w (AN (L.all (fun x=>p (x.l))) w):=by
 have HB0:Hid (Below w.heap.size w (w.alloc (.cells #[.func (.func F) #[] #[]] 80))):=AA ((Below.refl _ _).alloc (Nat.le_refl _) _)
 have HI:Hid (Calls Tryz.prog 99 #[v,.func (.func 100) #[] #[.pointer (some ⟨w.heap.size,0,none⟩)]] (w.alloc (.cells #[.func (.func F) #[] #[]] 80)) (AN (!L.all (fun x=>p (x.l))) (w.alloc (.cells #[.func (.func F) #[] #[]] 80)))):=
  AA (QCA eg (h.on HB0.out) hl (by simp) (by simp) (fun x hx w' h'=>hF x hx w' (AC HB0.out h')))
 clear h hF eg
 go_enter Tryz.func42,Tryz.ntmps42
 go_wp2_with fail
 refine HI.out.mono ?_
 rintro e w1 ⟨rfl,hb⟩
 have HB:=AA (AC HB0.out hb)
 clear hb
 go_wp2_with fail
 go_ret
 exact⟨AH (by simp),HB.out⟩
set_option maxRecDepth 100000 in
set_option maxHeartbeats 2000000 in
theorem QDv {F:Nat} (eg:Enters F) {q:Bool} {bx:Nat} {w:World} {x:Cv} (hbx:w.cell? ⟨bx,0,none⟩=some (.func (.func F) #[] #[])) (hl:bx<w.heap.size)
  (hF:∀w',Below w.heap.size w w'→Calls Tryz.prog F #[.agg #[x.vE,.int .i64 x.c.pl]] w' (AN q w')):Calls Tryz.prog 109 #[.agg #[x.vE,.int .i64 x.c.pl],.pointer (some ⟨bx,0,none⟩)] w (AN (!q) w):=by
 unfold Enters at eg
 have HF:=AA hF
 clear hF
 go_enter Tryz.func109,Tryz.ntmps109
 go_wp2_with fail
 refine(HF.out _ ((Below.refl _ _).alloc (Nat.le_refl _) _)).mono ?_
 rintro e w1 ⟨rfl,hb⟩
 have HB:=AA (Gl hb)
 clear hb
 go_wp2_with fail
 go_ret
 exact⟨rfl,HB.out⟩
set_option maxRecDepth 100000 in
set_option maxHeartbeats 2000000 in
theorem QDw {F:Nat} (eg:Enters F) {p:Clm→Bool} {L:List Cv} {v:Value} {w:World} {B bx:Nat} (h:ER w B v L) (hl:L.length≤100000) (hbx:w.cell? ⟨bx,0,none⟩=some (.func (.func F) #[] #[])) (hlb:bx<w.heap.size)
  (hF:∀x∈L,∀w',Below w.heap.size w w'→Calls Tryz.prog F #[.agg #[x.vE,.int .i64 x.c.pl]] w' (AN (p (x.c)) w')):Calls Tryz.prog 156 #[v,.func (.func 109) #[] #[.pointer (some ⟨bx,0,none⟩)]] w (QQ (!L.all (fun x=>p (x.c))) w):=by
 have HF:=AA hF
 have HO:=AA h
 have HG:=AA eg
 have HX:=AA hbx
 obtain⟨A,c,hv,hc,hm,hr⟩:=h.reads
 subst hv
 clear hr hF eg hbx
 go_enter Tryz.func156,Tryz.ntmps156
 go_wp2_with fail
 go_loopw [8] (fun i wr=>∃k:Nat,k≤L.length∧i=.int .i64 k∧(L.take k).all (fun x=>p (x.c))=true∧Below w.heap.size w wr) (fun i _=>L.length-(intOf i).toNat)
 case atStart=>exact⟨0,Nat.zero_le _,rfl,rfl,Below.refl _ _⟩
 case round=>
  obtain⟨k,hk,rfl,ha,hb⟩:=hrel
  have HA:=AA ha
  have HB:=AA hb
  clear ha
  by_cases hlt:k<L.length
  ·have hat:L[k]?=some L[k]:=List.getElem?_eq_getElem hlt
   have hin:=List.getElem_mem hlt
   generalize L[k]=a at *
   obtain⟨A',c',hv',_,_,hr'⟩:=(HO.out.on hb).reads
   obtain⟨rfl,_,rfl⟩:A=A'∧True∧c=c':=by simpa using hv'
   obtain⟨g,rfl,hgB,hg,x0,x1⟩:=hr' k a hat
   clear hr' hv' hgB
   have HC:Hid (Calls Tryz.prog 109 #[.agg #[a.vE,.int .i64 a.c.pl],.pointer (some ⟨bx,0,none⟩)] wr (AN (!p (a.c)) wr)):=AA (QDv HG.out ((hb.cell (p:=⟨bx,0,none⟩) hlb).trans HX.out) (by have:=hb.size;omega) (fun w' h'=>HF.out a hin w' (AC hb h')))
   clear hb
   cases hw:p (a.c)with
   |true=>
    have HN:=AA (QO (p:=fun x=>p (x.c)) hat HA.out hw)
    have HW:=AA hw
    clear hat hw
    go_wp2_with fail
    refine HC.out.mono ?_
    rw[HW.out]
    rintro e w1 ⟨rfl,hb⟩
    have HB2:=AA (AC HB.out hb)
    clear hb
    go_wp2_with fail
    go_roundw
    case rel=>exact⟨k+1,by omega,by go_num,HN.out,HB2.out⟩
    case measure=>simp[intOf];omega
   |false=>
    have HN:=AA (QP (p:=fun x=>p (x.c)) hat hw)
    have HW:=AA hw
    clear hat hw
    go_wp2_with fail
    refine HC.out.mono ?_
    rw[HW.out]
    rintro e w1 ⟨rfl,hb⟩
    have HB2:=AA (AC HB.out hb)
    clear hb
    go_wp2_with fail
    go_ret
    exact⟨k,rfl,by rw[HN.out];simp,HB2.out⟩
  ·go_wp2_with fail
   go_ret
   have h1:=HA.out
   rw[List.take_of_length_le (by omega)]at h1
   exact⟨-1,rfl,by rw[h1];rfl,HB.out⟩
set_option maxRecDepth 100000 in
set_option maxHeartbeats 2000000 in
theorem QCC {F:Nat} (eg:Enters F) {p:Clm→Bool} {L:List Cv} {v:Value} {w:World} {B bx:Nat} (h:ER w B v L) (hl:L.length≤100000) (hbx:w.cell? ⟨bx,0,none⟩=some (.func (.func F) #[] #[])) (hlb:bx<w.heap.size)
  (hF:∀x∈L,∀w',Below w.heap.size w w'→Calls Tryz.prog F #[.agg #[x.vE,.int .i64 x.c.pl]] w' (AN (p (x.c)) w')):Calls Tryz.prog 108 #[v,.func (.func 109) #[] #[.pointer (some ⟨bx,0,none⟩)]] w (AN (!L.all (fun x=>p (x.c))) w):=by
 have HI:=AA (QDw eg h hl hbx hlb hF)
 clear h hF eg hbx
 go_enter Tryz.func108,Tryz.ntmps108
 go_wp2_with fail
 refine HI.out.mono ?_
 rintro e w1 ⟨n,rfl,hn,hb⟩
 have HB:=AA hb
 have HN:=AA hn
 clear hb hn
 go_wp2_with fail
 go_ret
 exact⟨AH HN.out,HB.out⟩
set_option maxRecDepth 100000 in
set_option maxHeartbeats 2000000 in
theorem QDx {F:Nat} (eg:Enters F) (p:Clm→Bool) {L:List Cv} {v:Value} {w:World} {B:Nat} (h:ER w B v L) (hl:L.length≤100000)
  (hF:∀x∈L,∀w',Below w.heap.size w w'→Calls Tryz.prog F #[.agg #[x.vE,.int .i64 x.c.pl]] w' (AN (p (x.c)) w')):Calls Tryz.prog 50 #[v,.func (.func F) #[] #[]] w (AN (L.all (fun x=>p (x.c))) w):=by
 have HB0:Hid (Below w.heap.size w (w.alloc (.cells #[.func (.func F) #[] #[]] 86))):=AA ((Below.refl _ _).alloc (Nat.le_refl _) _)
 have HI:Hid (Calls Tryz.prog 108 #[v,.func (.func 109) #[] #[.pointer (some ⟨w.heap.size,0,none⟩)]] (w.alloc (.cells #[.func (.func F) #[] #[]] 86)) (AN (!L.all (fun x=>p (x.c))) (w.alloc (.cells #[.func (.func F) #[] #[]] 86)))):=
  AA (QCC eg (h.on HB0.out) hl (by simp) (by simp) (fun x hx w' h'=>hF x hx w' (AC HB0.out h')))
 clear h hF eg
 go_enter Tryz.func50,Tryz.ntmps50
 go_wp2_with fail
 refine HI.out.mono ?_
 rintro e w1 ⟨rfl,hb⟩
 have HB:=AA (AC HB0.out hb)
 clear hb
 go_wp2_with fail
 go_ret
 exact⟨AH (by simp),HB.out⟩
end Go.Proofs.YthfkpalfopdmhaaGreatDoor
