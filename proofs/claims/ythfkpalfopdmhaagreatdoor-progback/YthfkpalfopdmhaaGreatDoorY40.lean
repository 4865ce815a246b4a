/- Texts of the walk, packed. -/
import Derived.Test.YthfkpalfopdmhaaGreatDoorY32
import Derived.Test.YthfkpalfopdmhaaGreatDoorY30
import Derived.Test.YthfkpalfopdmhaaGreatDoorY20
import Derived.Test.YthfkpalfopdmhaaGreatDoorY00
namespace Go.Proofs.YthfkpalfopdmhaaGreatDoor
open Go.RowKit
set_option maxRecDepth 100000 in
set_option maxHeartbeats 2000000 in
theorem QDt {F:Nat} (eg:Enters F) {q:Bool} {bx:Nat} {w:World} {x:Tv} (hbx:w.cell? ⟨bx,0,none⟩=some (.func (.func F) #[] #[])) (hl:bx<w.heap.size)
  (hF:∀w',Below w.heap.size w w'→Calls Tryz.prog F #[.agg #[.string ⟨x.t.name.toArray⟩,x.vR,x.vB,.int .i64 x.t.pl]] w' (AN q w')):Calls Tryz.prog 106 #[.agg #[.string ⟨x.t.name.toArray⟩,x.vR,x.vB,.int .i64 x.t.pl],.pointer (some ⟨bx,0,none⟩)] w (AN (!q) w):=by
 unfold Enters at eg
 have HF:=AA hF
 clear hF
 go_enter Tryz.func106,Tryz.ntmps106
 go_wp2_with fail
 refine(HF.out _ ((Below.refl _ _).alloc (Nat.le_refl _) _)).mono ?_
 rintro e w1 ⟨rfl,hb⟩
 have HB:=AA (Gl hb)
 clear hb
 go_wp2_with fail
 go_ret
 exact⟨rfl,HB.out⟩
set_option maxRecDepth 100000 in
set_option maxHeartbeats 2000000 in
theorem QDu {F:Nat} (eg:Enters F) {p:Thr→Bool} {L:List Tv} {v:Value} {w:World} {B bx:Nat} (h:DY w B v L) (hl:L.length≤100000) (hbx:w.cell? ⟨bx,0,none⟩=some (.func (.func F) #[] #[])) (hlb:bx<w.heap.size)
  (hF:∀x∈L,∀w',Below w.heap.size w w'→Calls Tryz.prog F #[.agg #[.string ⟨x.t.name.toArray⟩,x.vR,x.vB,.int .i64 x.t.pl]] w' (AN (p (x.t)) w')):Calls Tryz.prog 153 #[v,.func (.func 106) #[] #[.pointer (some ⟨bx,0,none⟩)]] w (QQ (!L.all (fun x=>p (x.t))) w):=by
 have HF:=AA hF
 have HO:=AA h
 have HG:=AA eg
 have HX:=AA hbx
 obtain⟨A,c,hv,hc,hm,hr⟩:=h.reads
 subst hv
 clear hr hF eg hbx
 go_enter Tryz.func153,Tryz.ntmps153
 go_wp2_with fail
 go_loopw [8] (fun i wr=>∃k:Nat,k≤L.length∧i=.int .i64 k∧(L.take k).all (fun x=>p (x.t))=true∧Below w.heap.size w wr) (fun i _=>L.length-(intOf i).toNat)
 case atStart=>exact⟨0,Nat.zero_le _,rfl,rfl,Below.refl _ _⟩
 case round=>
  obtain⟨k,hk,rfl,ha,hb⟩:=hrel
  have HA:=AA ha
  have HB:=AA hb
  clear ha
  by_cases hlt:k<L.length
  ·have hat:L[k]?=some L[k]:=List.getElem?_eq_getElem hlt
   have hin:=List.getElem_mem hlt
   generalize L[k]=a at *
   obtain⟨A',c',hv',_,_,hr'⟩:=(HO.out.on hb).reads
   obtain⟨rfl,_,rfl⟩:A=A'∧True∧c=c':=by simpa using hv'
   obtain⟨g,rfl,hgB,hg,x0,x1,x2,x3⟩:=hr' k a hat
   clear hr' hv' hgB
   have HC:Hid (Calls Tryz.prog 106 #[.agg #[.string ⟨a.t.name.toArray⟩,a.vR,a.vB,.int .i64 a.t.pl],.pointer (some ⟨bx,0,none⟩)] wr (AN (!p (a.t)) wr)):=AA (QDt HG.out ((hb.cell (p:=⟨bx,0,none⟩) hlb).trans HX.out) (by have:=hb.size;omega) (fun w' h'=>HF.out a hin w' (AC hb h')))
   clear hb
   cases hw:p (a.t)with
   |true=>
    have HN:=AA (QO (p:=fun x=>p (x.t)) hat HA.out hw)
    have HW:=AA hw
    clear hat hw
    go_wp2_with fail
    refine HC.out.mono ?_
    rw[HW.out]
    rintro e w1 ⟨rfl,hb⟩
    have HB2:=AA (AC HB.out hb)
    clear hb
    go_wp2_with fail
    go_roundw
    case rel=>exact⟨k+1,by omega,by go_num,HN.out,HB2.out⟩
    case measure=>simp[intOf];omega
   |false=>
    have HN:=AA (QP (p:=fun x=>p (x.t)) hat hw)
    have HW:=AA hw
    clear hat hw
    go_wp2_with fail
    refine HC.out.mono ?_
    rw[HW.out]
    rintro e w1 ⟨rfl,hb⟩
    have HB2:=AA (AC HB.out hb)
    clear hb
    go_wp2_with fail
    go_ret
    exact⟨k,rfl,by rw[HN.out];simp,HB2.out⟩
  ·go_wp2_with fail
   go_ret
   have h1:=HA.out
   rw[List.take_of_length_le (by omega)]at h1
   exact⟨-1,rfl,by rw[h1];rfl,HB.out⟩
set_option maxRecDepth 100000 in
set_option maxHeartbeats 2000000 in
theorem QCB {F:Nat} (eg:Enters F) {p:Thr→Bool} {L:List Tv} {v:Value} {w:World} {B bx:Nat} (h:DY w B v L) (hl:L.length≤100000) (hbx:w.cell? ⟨bx,0,none⟩=some (.func (.func F) #[] #[])) (hlb:bx<w.heap.size)
  (hF:∀x∈L,∀w',Below w.heap.size w w'→Calls Tryz.prog F #[.agg #[.string ⟨x.t.name.toArray⟩,x.vR,x.vB,.int .i64 x.t.pl]] w' (AN (p (x.t)) w')):Calls Tryz.prog 105 #[v,.func (.func 106) #[] #[.pointer (some ⟨bx,0,none⟩)]] w (AN (!L.all (fun x=>p (x.t))) w):=by
 have HI:=AA (QDu eg h hl hbx hlb hF)
 clear h hF eg hbx
 go_enter Tryz.func105,Tryz.ntmps105
 go_wp2_with fail
 refine HI.out.mono ?_
 rintro e w1 ⟨n,rfl,hn,hb⟩
 have HB:=AA hb
 have HN:=AA hn
 clear hb hn
 go_wp2_with fail
 go_ret
 exact⟨AH HN.out,HB.out⟩
set_option maxRecDepth 100000 in
set_option maxHeartbeats 2000000 in
theorem X1 {F:Nat} (eg:Enters F) (p:Thr→Bool) {L:List Tv} {v:Value} {w:World} {B:Nat} (h:DY w B v L) (hl:L.length≤100000)
  (hF:∀x∈L,∀w',Below w.heap.size w w'→Calls Tryz.prog F #[.agg #[.string ⟨x.t.name.toArray⟩,x.vR,x.vB,.int .i64 x.t.pl]] w' (AN (p (x.t)) w')):Calls Tryz.prog 47 #[v,.func (.func F) #[] #[]] w (AN (L.all (fun x=>p (x.t))) w):=by
 have HB0:Hid (Below w.heap.size w (w.alloc (.cells #[.func (.func F) #[] #[]] 84))):=AA ((Below.refl _ _).alloc (Nat.le_refl _) _)
 have HI:Hid (Calls Tryz.prog 105 #[v,.func (.func 106) #[] #[.pointer (some ⟨w.heap.size,0,none⟩)]] (w.alloc (.cells #[.func (.func F) #[] #[]] 84)) (AN (!L.all (fun x=>p (x.t))) (w.alloc (.cells #[.func (.func F) #[] #[]] 84)))):=
  AA (QCB eg (h.on HB0.out) hl (by simp) (by simp) (fun x hx w' h'=>hF x hx w' (AC HB0.out h')))
 clear h hF eg
 go_enter Tryz.func47,Tryz.ntmps47
 go_wp2_with fail
 refine HI.out.mono ?_
 rintro e w1 ⟨rfl,hb⟩
 have HB:=AA (AC HB0.out hb)
 clear hb
 go_wp2_with fail
 go_ret
 exact⟨AH (by simp),HB.out⟩
set_option maxRecDepth 100000 in
set_option maxHeartbeats 4000000 in
theorem eqR {K M:List (List UInt8)} {v1 v2:Value} {w:World} {B1 B2:Nat} (h1:C9 w B1 v1 K) (h2:C9 w B2 v2 M) (hl:K.length≤10000):Calls Tryz.prog 125 #[v1,v2] w (AN (MV K M) w):=by
 obtain⟨A,c,rfl,hc,hm1,hr1⟩:=h1.reads
 obtain⟨A',c',rfl,hc',hm2,hr2⟩:=h2.reads
 have HR1:=AA hr1
 have HR2:=AA hr2
 clear hr1 hr2 h1 h2
 unfold MV
 by_cases hL:K.length=M.length
 ·rw[←hL]at hc'⊢
  have HL:=AA hL
  have HM:=AA (show∀k,k<K.length→k<M.length by rw[hL];exact fun _ h=>h)
  clear hL
  go_enter Tryz.func125,Tryz.ntmps125
  go_wp2_with fail
  go_loopw [13] (fun i wr=>∃k n:Nat,k≤K.length∧i=.int .i64 k∧wr=w.drewN n∧Ad (fun a b=>a==b) (K.take k) (M.take k)=true) (fun i _=>K.length-(intOf i).toNat)
  case atStart=>exact⟨0,0,Nat.zero_le _,rfl,rfl,rfl⟩
  case round=>
   obtain⟨k,n,hk,rfl,rfl,hs⟩:=hrel
   have HS:=AA hs
   clear hs
   by_cases hlt:k<K.length
   ·have hkm:=HM.out k hlt
    have ha:K[k]?=some K[k]:=List.getElem?_eq_getElem hlt
    have hb:M[k]?=some (M[k]'hkm):=List.getElem?_eq_getElem hkm
    generalize K[k]=a at *
    generalize M[k]'hkm=b at *
    obtain⟨g,rfl, -,hg,x0⟩:=HR1.out k a ha
    obtain⟨g',rfl, -,hg',y0⟩:=HR2.out k b hb
    have HN:=AA (fun h=>DN (q:=fun a b=>a==b) ha hb h)
    have HY:=AA (CB (q:=fun a b=>a==b) ha hb)
    clear ha hb
    cases e1:(a==b)with
    |false=>
     have HQ:=AA e1
     go_wp2_with fail
     go_quiet (fail)
     go_wp2_with fail
     go_ret
     exact⟨AH (HN.out HQ.out).symm,Ha _ _ _⟩
    |true=>
     have HQ:=AA e1
     go_wp2_with fail
     go_quiet (fail)
     go_wp2_with fail
     go_roundw
     case rel=>exact⟨k+1,_,by omega,by go_num,rfl,by rw[HY.out,HS.out,HQ.out];rfl⟩
     case measure=>simp[intOf];omega
   ·have HQ:=AA (Cf (q:=fun a b=>a==b) (by omega) HL.out HS.out)
    go_wp2_with fail
    go_ret
    exact⟨AH HQ.out.symm,AO _ _⟩
 ·have HQ:=AA (Ce (q:=fun a b:List UInt8=>a==b) hL)
  have hd:((K.length:Int) != (M.length:Int))=true:=by simp;omega
  clear hL
  go_enter Tryz.func125,Tryz.ntmps125
  go_wp2_with fail
  go_ret
  exact⟨AH HQ.out.symm,Below.refl _ _⟩
theorem VW (a b:Cel):B8 false a b=(a.name==b.name&&a.n==b.n):=by unfold B8;simp
set_option maxRecDepth 100000 in
set_option maxHeartbeats 4000000 in
theorem QFU (a b:Cel) (w:World):Calls Tryz.prog 124 #[.agg #[.string ⟨a.name.toArray⟩,.int .i64 a.n,.int .i64 a.pl],.agg #[.string ⟨b.name.toArray⟩,.int .i64 b.n,.int .i64 b.pl]] w (AN (B8 false a b) w):=by
 have HV:=AA (VW a b)
 cases e1:(a.name==b.name)with
 |false=>
  have HQ:Hid (B8 false a b=false):=AA (by rw[HV.out,e1];rfl)
  go_enter Tryz.func124,Tryz.ntmps124
  go_wp2_with fail
  go_ret
  exact⟨AH HQ.out.symm,BC _ _ _⟩
 |true=>
  have HQ:Hid (B8 false a b=(a.n==b.n)):=AA (by rw[HV.out,e1];rfl)
  go_enter Tryz.func124,Tryz.ntmps124
  go_wp2_with fail
  go_ret
  exact⟨AH HQ.out.symm,BC _ _ _⟩
end Go.Proofs.YthfkpalfopdmhaaGreatDoor
