/- Texts of the walk, packed. -/
import Derived.Test.YthfkpalfopdmhaaGreatDoorW29
import Derived.Test.YthfkpalfopdmhaaGreatDoorW38
import Derived.Test.YthfkpalfopdmhaaGreatDoorW00
namespace Go.Proofs.YthfkpalfopdmhaaGreatDoor
open Go.RowKit
set_option maxRecDepth 100000 in
set_option maxHeartbeats 2000000 in
theorem QEl {F:Nat} (eg:Enters F) {q:Bool} {bx:Nat} {w:World} {x:Cel} (hbx:w.cell? ⟨bx,0,none⟩=some (.func (.func F) #[] #[])) (hl:bx<w.heap.size)
  (hF:∀w',Below w.heap.size w w'->Calls Tryz.prog F #[.agg #[.string ⟨x.name.toArray⟩,.int .i64 x.n,.int .i64 x.pl]] w' (AK q w')):Calls Tryz.prog 102 #[.agg #[.string ⟨x.name.toArray⟩,.int .i64 x.n,.int .i64 x.pl],.pointer (some ⟨bx,0,none⟩)] w (AK (!q) w):=by
 unfold Enters at eg;have HF:=AA hF;clear hF;go_enter Tryz.func102,Tryz.ntmps102;go_wp2_with fail
 refine(HF.out _ ((Below.refl _ _).alloc (Nat.le_refl _) _)).mono ?_;rintro e w1 ⟨rfl,hb⟩;have HB:=AA (Gg hb);clear hb;go_wp2_with fail
 go_ret;exact⟨rfl,HB.out⟩
set_option maxRecDepth 100000 in
set_option maxHeartbeats 2000000 in
theorem QEm {F:Nat} (eg:Enters F) {p:Cel->Bool} {L:List Cel} {v:Value} {w:World} {B bx:Nat} (h:Bw w B v L) (hl:L.length<=100000) (hbx:w.cell? ⟨bx,0,none⟩=some (.func (.func F) #[] #[])) (hlb:bx<w.heap.size)
  (hF:∀x∈L,∀w',Below w.heap.size w w'->Calls Tryz.prog F #[.agg #[.string ⟨x.name.toArray⟩,.int .i64 x.n,.int .i64 x.pl]] w' (AK (p (x)) w')):Calls Tryz.prog 150 #[v,.func (.func 102) #[] #[.pointer (some ⟨bx,0,none⟩)]] w (Q5 (!L.all (fun x=>p (x))) w):=by
 have HF:=AA hF;have HO:=AA h;have HG:=AA eg;have HX:=AA hbx;obtain⟨A,c,hv,hc,hm,hr⟩:=h.reads;subst hv;clear hr hF eg hbx;go_enter Tryz.func150,Tryz.ntmps150;go_wp2_with fail
 go_loopw [8] (fun i wr=>∃k:Nat,k<=L.length/\i=.int .i64 k/\(L.take k).all (fun x=>p (x))=true/\Below w.heap.size w wr) (fun i _=>L.length-(intOf i).toNat)
 case atStart=>exact⟨0,Nat.zero_le _,rfl,rfl,Below.refl _ _⟩
 case round=>
  obtain⟨k,hk,rfl,ha,hb⟩:=hrel;have HA:=AA ha;have HB:=AA hb;clear ha;by_cases hlt:k<L.length
  ·have hat:L[k]?=some L[k]:=List.getElem?_eq_getElem hlt;have hin:=List.getElem_mem hlt;generalize L[k]=a at *;obtain⟨A',c',hv',_,_,hr'⟩:=(HO.out.on hb).reads;obtain⟨rfl,_,rfl⟩:A=A'/\True/\c=c':=by simpa using hv'
   obtain⟨g,rfl,hgB,hg,x0,x1,x2⟩:=hr' k a hat;clear hr' hv' hgB;have HC:Hid (Calls Tryz.prog 102 #[.agg #[.string ⟨a.name.toArray⟩,.int .i64 a.n,.int .i64 a.pl],.pointer (some ⟨bx,0,none⟩)] wr (AK (!p (a)) wr)):=AA (QEl HG.out ((hb.cell (p:=⟨bx,0,none⟩) hlb).trans HX.out) (by have:=hb.size;omega) (fun w' h'=>HF.out a hin w' (AC hb h')));clear hb;cases hw:p (a)with
   |true=>
    have HN:=AA (Q3 (p:=fun x=>p (x)) hat HA.out hw);have HW:=AA hw;clear hat hw;go_wp2_with fail
    refine HC.out.mono ?_;rw[HW.out];rintro e w1 ⟨rfl,hb⟩;have HB2:=AA (AC HB.out hb);clear hb;go_wp2_with fail
    go_roundw;case rel=>exact⟨k+1,by omega,by go_num,HN.out,HB2.out⟩
    case measure=>simp[intOf];omega
   |false=>
    have HN:=AA (Q4 (p:=fun x=>p (x)) hat hw);have HW:=AA hw;clear hat hw;go_wp2_with fail
    refine HC.out.mono ?_;rw[HW.out];rintro e w1 ⟨rfl,hb⟩;have HB2:=AA (AC HB.out hb);clear hb;go_wp2_with fail
    go_ret;exact⟨k,rfl,by rw[HN.out];simp,HB2.out⟩
  ·go_wp2_with fail
   go_ret;have h1:=HA.out;rw[List.take_of_length_le (by omega)]at h1;exact⟨-1,rfl,by rw[h1];rfl,HB.out⟩
set_option maxRecDepth 100000 in
set_option maxHeartbeats 2000000 in
theorem QCe {F:Nat} (eg:Enters F) {p:Cel->Bool} {L:List Cel} {v:Value} {w:World} {B bx:Nat} (h:Bw w B v L) (hl:L.length<=100000) (hbx:w.cell? ⟨bx,0,none⟩=some (.func (.func F) #[] #[])) (hlb:bx<w.heap.size)
  (hF:∀x∈L,∀w',Below w.heap.size w w'->Calls Tryz.prog F #[.agg #[.string ⟨x.name.toArray⟩,.int .i64 x.n,.int .i64 x.pl]] w' (AK (p (x)) w')):Calls Tryz.prog 101 #[v,.func (.func 102) #[] #[.pointer (some ⟨bx,0,none⟩)]] w (AK (!L.all (fun x=>p (x))) w):=by
 have HI:=AA (QEm eg h hl hbx hlb hF);clear h hF eg hbx;go_enter Tryz.func101,Tryz.ntmps101;go_wp2_with fail
 refine HI.out.mono ?_;rintro e w1 ⟨n,rfl,hn,hb⟩;have HB:=AA hb;have HN:=AA hn;clear hb hn;go_wp2_with fail
 go_ret;exact⟨AH HN.out,HB.out⟩
set_option maxRecDepth 100000 in
set_option maxHeartbeats 2000000 in
theorem UR {F:Nat} (eg:Enters F) (p:Cel->Bool) {L:List Cel} {v:Value} {w:World} {B:Nat} (h:Bw w B v L) (hl:L.length<=100000)
  (hF:∀x∈L,∀w',Below w.heap.size w w'->Calls Tryz.prog F #[.agg #[.string ⟨x.name.toArray⟩,.int .i64 x.n,.int .i64 x.pl]] w' (AK (p (x)) w')):Calls Tryz.prog 44 #[v,.func (.func F) #[] #[]] w (AK (L.all (fun x=>p (x))) w):=by
 have HB0:Hid (Below w.heap.size w (w.alloc (.cells #[.func (.func F) #[] #[]] 82))):=AA ((Below.refl _ _).alloc (Nat.le_refl _) _);have HI:Hid (Calls Tryz.prog 101 #[v,.func (.func 102) #[] #[.pointer (some ⟨w.heap.size,0,none⟩)]] (w.alloc (.cells #[.func (.func F) #[] #[]] 82)) (AK (!L.all (fun x=>p (x))) (w.alloc (.cells #[.func (.func F) #[] #[]] 82)))):=
  AA (QCe eg (h.on HB0.out) hl (by simp) (by simp) (fun x hx w' h'=>hF x hx w' (AC HB0.out h')))
 clear h hF eg;go_enter Tryz.func44,Tryz.ntmps44;go_wp2_with fail
 refine HI.out.mono ?_;rintro e w1 ⟨rfl,hb⟩;have HB:=AA (AC HB0.out hb);clear hb;go_wp2_with fail
 go_ret;exact⟨AH (by simp),HB.out⟩
set_option maxRecDepth 100000 in
set_option maxHeartbeats 2000000 in
theorem QEn {F:Nat} (eg:Enters F) {q:Bool} {bx:Nat} {w:World} {x:Lv} (hbx:w.cell? ⟨bx,0,none⟩=some (.func (.func F) #[] #[])) (_hl:bx<w.heap.size)
  (hF:∀w',Below w.heap.size w w'->Calls Tryz.prog F #[x.v] w' (AK q w')):Calls Tryz.prog 100 #[x.v,.pointer (some ⟨bx,0,none⟩)] w (AK (!q) w):=by
 unfold Enters at eg;have HF:=AA hF;clear hF;go_enter Tryz.func100,Tryz.ntmps100;go_wp2_with fail
 refine(HF.out _ (Below.refl _ _)).mono ?_;rintro e w1 ⟨rfl,hb⟩;have HB:=AA hb;clear hb;go_wp2_with fail
 go_ret;exact⟨rfl,HB.out⟩
set_option maxRecDepth 100000 in
set_option maxHeartbeats 2000000 in
theorem QEo {F:Nat} (eg:Enters F) {p:List Cel->Bool} {L:List Lv} {v:Value} {w:World} {B bx:Nat} (h:Ep w B v L) (hl:L.length<=100000) (hbx:w.cell? ⟨bx,0,none⟩=some (.func (.func F) #[] #[])) (hlb:bx<w.heap.size)
  (hF:∀x∈L,∀w',Below w.heap.size w w'->Calls Tryz.prog F #[x.v] w' (AK (p (x.l)) w')):Calls Tryz.prog 149 #[v,.func (.func 100) #[] #[.pointer (some ⟨bx,0,none⟩)]] w (Q5 (!L.all (fun x=>p (x.l))) w):=by
 have HF:=AA hF;have HO:=AA h;have HG:=AA eg;have HX:=AA hbx;obtain⟨A,c,hv,hc,hm,hr⟩:=h.reads;subst hv;clear hr hF eg hbx;go_enter Tryz.func149,Tryz.ntmps149;go_wp2_with fail
 go_loopw [8] (fun i wr=>∃k:Nat,k<=L.length/\i=.int .i64 k/\(L.take k).all (fun x=>p (x.l))=true/\Below w.heap.size w wr) (fun i _=>L.length-(intOf i).toNat)
 case atStart=>exact⟨0,Nat.zero_le _,rfl,rfl,Below.refl _ _⟩
 case round=>
  obtain⟨k,hk,rfl,ha,hb⟩:=hrel;have HA:=AA ha;have HB:=AA hb;clear ha;by_cases hlt:k<L.length
  ·have hat:L[k]?=some L[k]:=List.getElem?_eq_getElem hlt;have hin:=List.getElem_mem hlt;generalize L[k]=a at *;obtain⟨A',c',hv',_,_,hr'⟩:=(HO.out.on hb).reads;obtain⟨rfl,_,rfl⟩:A=A'/\True/\c=c':=by simpa using hv'
   obtain⟨g,rfl,hgB,hg,x0⟩:=hr' k a hat;clear hr' hv' hgB;have HC:Hid (Calls Tryz.prog 100 #[a.v,.pointer (some ⟨bx,0,none⟩)] wr (AK (!p (a.l)) wr)):=AA (QEn HG.out ((hb.cell (p:=⟨bx,0,none⟩) hlb).trans HX.out) (by have:=hb.size;omega) (fun w' h'=>HF.out a hin w' (AC hb h')));clear hb;cases hw:p (a.l)with
   |true=>
    have HN:=AA (Q3 (p:=fun x=>p (x.l)) hat HA.out hw);have HW:=AA hw;clear hat hw;go_wp2_with fail
    refine HC.out.mono ?_;rw[HW.out];rintro e w1 ⟨rfl,hb⟩;have HB2:=AA (AC HB.out hb);clear hb;go_wp2_with fail
    go_roundw;case rel=>exact⟨k+1,by omega,by go_num,HN.out,HB2.out⟩
    case measure=>simp[intOf];omega
   |false=>
    have HN:=AA (Q4 (p:=fun x=>p (x.l)) hat hw);have HW:=AA hw;clear hat hw;go_wp2_with fail
    refine HC.out.mono ?_;rw[HW.out];rintro e w1 ⟨rfl,hb⟩;have HB2:=AA (AC HB.out hb);clear hb;go_wp2_with fail
    go_ret;exact⟨k,rfl,by rw[HN.out];simp,HB2.out⟩
  ·go_wp2_with fail
   go_ret;have h1:=HA.out;rw[List.take_of_length_le (by omega)]at h1;exact⟨-1,rfl,by rw[h1];rfl,HB.out⟩
set_option maxRecDepth 100000 in
set_option maxHeartbeats 2000000 in
theorem QCf {F:Nat} (eg:Enters F) {p:List Cel->Bool} {L:List Lv} {v:Value} {w:World} {B bx:Nat} (h:Ep w B v L) (hl:L.length<=100000) (hbx:w.cell? ⟨bx,0,none⟩=some (.func (.func F) #[] #[])) (hlb:bx<w.heap.size)
  (hF:∀x∈L,∀w',Below w.heap.size w w'->Calls Tryz.prog F #[x.v] w' (AK (p (x.l)) w')):Calls Tryz.prog 99 #[v,.func (.func 100) #[] #[.pointer (some ⟨bx,0,none⟩)]] w (AK (!L.all (fun x=>p (x.l))) w):=by
 have HI:=AA (QEo eg h hl hbx hlb hF);clear h hF eg hbx;go_enter Tryz.func99,Tryz.ntmps99;go_wp2_with fail
 refine HI.out.mono ?_;rintro e w1 ⟨n,rfl,hn,hb⟩;have HB:=AA hb;have HN:=AA hn;clear hb hn;go_wp2_with fail
 go_ret;exact⟨AH HN.out,HB.out⟩
set_option maxRecDepth 100000 in
set_option maxHeartbeats 2000000 in
theorem QEp {F:Nat} (eg:Enters F) (p:List Cel->Bool) {L:List Lv} {v:Value} {w:World} {B:Nat} (h:Ep w B v L) (hl:L.length<=100000)
  (hF:∀x∈L,∀w',Below w.heap.size w w'->Calls Tryz.prog F #[x.v] w' (AK (p (x.l)) w')):Calls Tryz.prog 42 #[v,.func (.func F) #[] #[]] w (AK (L.all (fun x=>p (x.l))) w):=by
 have HB0:Hid (Below w.heap.size w (w.alloc (.cells #[.func (.func F) #[] #[]] 80))):=AA ((Below.refl _ _).alloc (Nat.le_refl _) _);have HI:Hid (Calls Tryz.prog 99 #[v,.func (.func 100) #[] #[.pointer (some ⟨w.heap.size,0,none⟩)]] (w.alloc (.cells #[.func (.func F) #[] #[]] 80)) (AK (!L.all (fun x=>p (x.l))) (w.alloc (.cells #[.func (.func F) #[] #[]] 80)))):=
  AA (QCf eg (h.on HB0.out) hl (by simp) (by simp) (fun x hx w' h'=>hF x hx w' (AC HB0.out h')))
 clear h hF eg;go_enter Tryz.func42,Tryz.ntmps42;go_wp2_with fail
 refine HI.out.mono ?_;rintro e w1 ⟨rfl,hb⟩;have HB:=AA (AC HB0.out hb);clear hb;go_wp2_with fail
 go_ret;exact⟨AH (by simp),HB.out⟩
set_option maxRecDepth 100000 in
set_option maxHeartbeats 2000000 in
theorem QEs {F:Nat} (eg:Enters F) {q:Bool} {bx:Nat} {w:World} {x:Cv} (hbx:w.cell? ⟨bx,0,none⟩=some (.func (.func F) #[] #[])) (hl:bx<w.heap.size)
  (hF:∀w',Below w.heap.size w w'->Calls Tryz.prog F #[.agg #[x.vE,.int .i64 x.c.pl]] w' (AK q w')):Calls Tryz.prog 109 #[.agg #[x.vE,.int .i64 x.c.pl],.pointer (some ⟨bx,0,none⟩)] w (AK (!q) w):=by
 unfold Enters at eg;have HF:=AA hF;clear hF;go_enter Tryz.func109,Tryz.ntmps109;go_wp2_with fail
 refine(HF.out _ ((Below.refl _ _).alloc (Nat.le_refl _) _)).mono ?_;rintro e w1 ⟨rfl,hb⟩;have HB:=AA (Gg hb);clear hb;go_wp2_with fail
 go_ret;exact⟨rfl,HB.out⟩
set_option maxRecDepth 100000 in
set_option maxHeartbeats 2000000 in
theorem QEt {F:Nat} (eg:Enters F) {p:Clm->Bool} {L:List Cv} {v:Value} {w:World} {B bx:Nat} (h:Dy w B v L) (hl:L.length<=100000) (hbx:w.cell? ⟨bx,0,none⟩=some (.func (.func F) #[] #[])) (hlb:bx<w.heap.size)
  (hF:∀x∈L,∀w',Below w.heap.size w w'->Calls Tryz.prog F #[.agg #[x.vE,.int .i64 x.c.pl]] w' (AK (p (x.c)) w')):Calls Tryz.prog 156 #[v,.func (.func 109) #[] #[.pointer (some ⟨bx,0,none⟩)]] w (Q5 (!L.all (fun x=>p (x.c))) w):=by
 have HF:=AA hF;have HO:=AA h;have HG:=AA eg;have HX:=AA hbx;obtain⟨A,c,hv,hc,hm,hr⟩:=h.reads;subst hv;clear hr hF eg hbx;go_enter Tryz.func156,Tryz.ntmps156;go_wp2_with fail
 go_loopw [8] (fun i wr=>∃k:Nat,k<=L.length/\i=.int .i64 k/\(L.take k).all (fun x=>p (x.c))=true/\Below w.heap.size w wr) (fun i _=>L.length-(intOf i).toNat)
 case atStart=>exact⟨0,Nat.zero_le _,rfl,rfl,Below.refl _ _⟩
 case round=>
  obtain⟨k,hk,rfl,ha,hb⟩:=hrel;have HA:=AA ha;have HB:=AA hb;clear ha;by_cases hlt:k<L.length
  ·have hat:L[k]?=some L[k]:=List.getElem?_eq_getElem hlt;have hin:=List.getElem_mem hlt;generalize L[k]=a at *;obtain⟨A',c',hv',_,_,hr'⟩:=(HO.out.on hb).reads;obtain⟨rfl,_,rfl⟩:A=A'/\True/\c=c':=by simpa using hv'
   obtain⟨g,rfl,hgB,hg,x0,x1⟩:=hr' k a hat;clear hr' hv' hgB;have HC:Hid (Calls Tryz.prog 109 #[.agg #[a.vE,.int .i64 a.c.pl],.pointer (some ⟨bx,0,none⟩)] wr (AK (!p (a.c)) wr)):=AA (QEs HG.out ((hb.cell (p:=⟨bx,0,none⟩) hlb).trans HX.out) (by have:=hb.size;omega) (fun w' h'=>HF.out a hin w' (AC hb h')));clear hb;cases hw:p (a.c)with
   |true=>
    have HN:=AA (Q3 (p:=fun x=>p (x.c)) hat HA.out hw);have HW:=AA hw;clear hat hw;go_wp2_with fail
    refine HC.out.mono ?_;rw[HW.out];rintro e w1 ⟨rfl,hb⟩;have HB2:=AA (AC HB.out hb);clear hb;go_wp2_with fail
    go_roundw;case rel=>exact⟨k+1,by omega,by go_num,HN.out,HB2.out⟩
    case measure=>simp[intOf];omega
   |false=>
    have HN:=AA (Q4 (p:=fun x=>p (x.c)) hat hw);have HW:=AA hw;clear hat hw;go_wp2_with fail
    refine HC.out.mono ?_;rw[HW.out];rintro e w1 ⟨rfl,hb⟩;have HB2:=AA (AC HB.out hb);clear hb;go_wp2_with fail
    go_ret;exact⟨k,rfl,by rw[HN.out];simp,HB2.out⟩
  ·go_wp2_with fail
   go_ret;have h1:=HA.out;rw[List.take_of_length_le (by omega)]at h1;exact⟨-1,rfl,by rw[h1];rfl,HB.out⟩
set_option maxRecDepth 100000 in
set_option maxHeartbeats 2000000 in
theorem QCh {F:Nat} (eg:Enters F) {p:Clm->Bool} {L:List Cv} {v:Value} {w:World} {B bx:Nat} (h:Dy w B v L) (hl:L.length<=100000) (hbx:w.cell? ⟨bx,0,none⟩=some (.func (.func F) #[] #[])) (hlb:bx<w.heap.size)
  (hF:∀x∈L,∀w',Below w.heap.size w w'->Calls Tryz.prog F #[.agg #[x.vE,.int .i64 x.c.pl]] w' (AK (p (x.c)) w')):Calls Tryz.prog 108 #[v,.func (.func 109) #[] #[.pointer (some ⟨bx,0,none⟩)]] w (AK (!L.all (fun x=>p (x.c))) w):=by
 have HI:=AA (QEt eg h hl hbx hlb hF);clear h hF eg hbx;go_enter Tryz.func108,Tryz.ntmps108;go_wp2_with fail
 refine HI.out.mono ?_;rintro e w1 ⟨n,rfl,hn,hb⟩;have HB:=AA hb;have HN:=AA hn;clear hb hn;go_wp2_with fail
 go_ret;exact⟨AH HN.out,HB.out⟩
set_option maxRecDepth 100000 in
set_option maxHeartbeats 2000000 in
theorem QEu {F:Nat} (eg:Enters F) (p:Clm->Bool) {L:List Cv} {v:Value} {w:World} {B:Nat} (h:Dy w B v L) (hl:L.length<=100000)
  (hF:∀x∈L,∀w',Below w.heap.size w w'->Calls Tryz.prog F #[.agg #[x.vE,.int .i64 x.c.pl]] w' (AK (p (x.c)) w')):Calls Tryz.prog 50 #[v,.func (.func F) #[] #[]] w (AK (L.all (fun x=>p (x.c))) w):=by
 have HB0:Hid (Below w.heap.size w (w.alloc (.cells #[.func (.func F) #[] #[]] 86))):=AA ((Below.refl _ _).alloc (Nat.le_refl _) _);have HI:Hid (Calls Tryz.prog 108 #[v,.func (.func 109) #[] #[.pointer (some ⟨w.heap.size,0,none⟩)]] (w.alloc (.cells #[.func (.func F) #[] #[]] 86)) (AK (!L.all (fun x=>p (x.c))) (w.alloc (.cells #[.func (.func F) #[] #[]] 86)))):=
  AA (QCh eg (h.on HB0.out) hl (by simp) (by simp) (fun x hx w' h'=>hF x hx w' (AC HB0.out h')))
 clear h hF eg;go_enter Tryz.func50,Tryz.ntmps50;go_wp2_with fail
 refine HI.out.mono ?_;rintro e w1 ⟨rfl,hb⟩;have HB:=AA (AC HB0.out hb);clear hb;go_wp2_with fail
 go_ret;exact⟨AH (by simp),HB.out⟩
theorem QDE:(Tryz.prog.info? 44).map (fun i=>(i.zero,i.size,i.bytes))=some (some (.agg #[.int .i64 0,.string ⟨#[]⟩,.string ⟨#[]⟩,.slice none 0 0,.slice none 0 0,.int .i64 0,.int .i64 0,.int .i64 0,.int .i64 0]),9,120):=by kernel_rfl
structure Jt (w:World) (B:Nat) (v:Value) (K:List Sv):Prop where
 row:w.ownsRow B 44 9 v K.length (Bc K)
 sub:∀x∈K,B0 B w x.vE x.s.e/\B0 B w x.vF x.s.f
theorem Jt.keepT {P:Nat->Prop} {w w':World} {B:Nat} {v:Value} {K:List Sv} (h:Jt w B v K) (hk:AG P w w') (ha:Av P w B [44,46]):Jt w' B v K:=
 ⟨Gp h.row hk (ha.sub (by simp)),fun x hx=>⟨(h.sub x hx).1.keepT hk (ha.sub (by simp)),(h.sub x hx).2.keepT hk (ha.sub (by simp))⟩⟩
theorem Jt.on {w w':World} {B:Nat} {v:Value} {K:List Sv} (h:Jt w B v K) (hb:Below w.heap.size w w'):Jt w' B v K:=h.keepT (AG.of hb) Av.none
theorem Jt.reads {w:World} {B:Nat} {v:Value} {K:List Sv} (h:Jt w B v K):∃A c,v=.slice A K.length c/\K.length<=c/\c<=maxLen/\∀i x,K[i]?=some x->∃g,A=some ⟨g,0,none⟩/\B<=g/\g<w.heap.size/\
  w.cell? ⟨g,i*9,none⟩=some (.int .i64 x.s.kind)/\w.cell? ⟨g,i*9+1,none⟩=some (.string ⟨x.s.reg.toArray⟩)/\w.cell? ⟨g,i*9+2,none⟩=some (.string ⟨x.s.name.toArray⟩)/\w.cell? ⟨g,i*9+3,none⟩=some x.vE/\w.cell? ⟨g,i*9+4,none⟩=some x.vF/\
  w.cell? ⟨g,i*9+5,none⟩=some (.int .i64 x.s.n)/\w.cell? ⟨g,i*9+6,none⟩=some (.int .i64 x.s.body)/\w.cell? ⟨g,i*9+7,none⟩=some (.int .i64 x.s.els)/\w.cell? ⟨g,i*9+8,none⟩=some (.int .i64 x.s.pl):=by
 obtain⟨A,c,hv,h1,h2,h3⟩:=AS h.row;refine⟨A,c,hv,h1,h2,fun i x hi=>?_⟩;obtain⟨g,hA,hB,hg,_,hc⟩:=h3 (by have:=(List.getElem?_eq_some_iff.1 hi).1;omega);have hf:∀x,(A8 x).length=9:=fun _=>rfl
 exact⟨g,hA,hB,hg,hc _ _ (CQ hf K i x 0 _ hi rfl),hc _ _ (CQ hf K i x 1 _ hi rfl),hc _ _ (CQ hf K i x 2 _ hi rfl),hc _ _ (CQ hf K i x 3 _ hi rfl),hc _ _ (CQ hf K i x 4 _ hi rfl),hc _ _ (CQ hf K i x 5 _ hi rfl),hc _ _ (CQ hf K i x 6 _ hi rfl),hc _ _ (CQ hf K i x 7 _ hi rfl),hc _ _ (CQ hf K i x 8 _ hi rfl)⟩
theorem QFA {wa w5:World} {B:Nat} {v v5:Value} {K:List Sv} {x:Sv} (h:Jt wa B v K) (hx:B0 B wa x.vE x.s.e/\B0 B wa x.vF x.s.f) (hg:wa.grownBy w5 v.ownBlock) (hr:w5.ownsRow B 44 9 v5 (K.length+1) (Bc K++A8 x)):Jt w5 B v5 (K++[x]):=by
 have hA:Av (fun q=>v.ownBlock=some q) wa B [46]:=fun q cs T hB hh hT hP=>by
  obtain⟨_,cs',h'⟩:=AI h.row q hP;rw[h']at hh;simp only[List.mem_singleton]at hT;subst hT;simp at hh
 have hk:AG (fun q=>v.ownBlock=some q) wa w5:=AG.grown hg;refine⟨by rw[List.length_append,ER];simpa[Bc]using hr,fun y hy=>?_⟩;rcases List.mem_append.1 hy with hy|hy
 ·exact⟨(h.sub y hy).1.keepT hk hA,(h.sub y hy).2.keepT hk hA⟩
 ·simp at hy;subst hy;exact⟨hx.1.keepT hk hA,hx.2.keepT hk hA⟩
set_option maxRecDepth 100000 in
set_option maxHeartbeats 8000000 in
theorem QGX {K:List Sv} {v:Value} {w:World} {B:Nat} (h:Jt w B v K) (hl:K.length<=10000) (hs:∀x∈K,x.s.e.length<=10000/\x.s.f.length<=10000):
  Calls Tryz.prog 96 #[v,.func (.func 97) #[] #[]] w (fun e w'=>∃u,e=.returned u/\Ec w' w.heap.size u (K.map (fun x=>bareS x.s))/\Below w.heap.size w w'):=by
 obtain⟨i0,hi0,hz0,hz1,hz2⟩:=info_parts QDE;have HZ:=AA (show Tryz.prog.info? 44=some i0/\i0.zero=some (.agg #[.int .i64 0,.string ⟨#[]⟩,.string ⟨#[]⟩,.slice none 0 0,.slice none 0 0,.int .i64 0,.int .i64 0,.int .i64 0,.int .i64 0])/\i0.size=9/\i0.bytes=120 from⟨hi0,hz0,hz1,hz2⟩);have HO:=AA h;have HS:=AA hs;obtain⟨A,c,rfl,hc,hm1,hr1⟩:=h.reads;clear hi0 hz0 hz1 hz2 hr1 h hs;go_enter Tryz.func96,Tryz.ntmps96;go_wp2_with fail
 go_loopw [5,10] (fun all i wr=>∃(k:Nat) (K':List Sv),k<=K.length/\i=.int .i64 k/\Below w.heap.size w wr/\Jt wr w.heap.size all K'/\K'.map (·.s)=(K.take k).map (fun x=>bareS x.s)) (fun _ i _=>K.length-(intOf i).toNat)
 case atStart=>exact⟨0,[],Nat.zero_le _,rfl,Below.refl _ _,⟨World.ownsRow_nil _ _ _ _,fun x h=>by cases h⟩,rfl⟩
 case round=>
  obtain⟨k,acc,hk,rfl,hbel,hacc,hmap⟩:=hrel;have HB:=AA hbel;have HA:=AA hacc;have hsz:=hbel.size;by_cases hlt:k<K.length
  ·have ha:K[k]?=some K[k]:=List.getElem?_eq_getElem hlt;have hin:=List.getElem_mem hlt;generalize K[k]=a at *;have HT:Hid ((acc.map (·.s))++[bareS a.s]=(K.take (k+1)).map (fun x=>bareS x.s)):=AA (by rw[List.take_add_one,ha,List.map_append,hmap];rfl);have HN:Hid (acc.length=k):=AA (by have:=congrArg List.length hmap;simp at this;omega);have hA:=(Below.refl wr.heap.size wr).alloc (Nat.le_refl _) (.cells #[.int .i64 a.s.kind,.string ⟨a.s.reg.toArray⟩,.string ⟨a.s.name.toArray⟩,a.vE,a.vF,.int .i64 a.s.n,.int .i64 a.s.body,.int .i64 a.s.els,.int .i64 a.s.pl] 44);have hsub:=(HO.out.on hbel).sub a hin
   have HC:=AA (QGW a.s (hsub.1.rd.on hA) (hsub.2.rd.on hA) (HS.out a hin).1 (HS.out a hin).2);have HAL:=AA hA;obtain⟨A2,c2,hv,_,_,hr⟩:=(HO.out.on hbel).reads;obtain⟨rfl,_,rfl⟩:A=A2/\True/\c=c2:=by simpa using hv
   obtain⟨g,rfl, -,hg,x0,x1,x2,x3,x4,x5,x6,x7,x8⟩:=hr k a ha;obtain⟨AE,cE,eE, -, -, -⟩:=hsub.1.rd;obtain⟨AF,cF,eF, -, -, -⟩:=hsub.2.rd;rw[eE]at x3 HC HAL;rw[eF]at x4 HC HAL;unfold Rb at HC;obtain⟨A3,c3,rfl, -, -, -⟩:=hacc.reads;clear ha hr hv hbel hacc hmap hin eE eF hA hsub;go_wp2_with fail
   refine HC.out.mono ?_;rintro e w1 ⟨u1,u2,rfl,hu1,hu2,hb⟩;have HB1:=AA ((AC HB.out HAL.out).trans (hb.mono (AC HB.out HAL.out).size));have hb2:=AC HAL.out hb;have HA1:=AA (HA.out.on hb2);have hws:=(AC HB.out HAL.out).size;have HU1:=AA (hu1.readE (B':=w.heap.size) hws);have HU2:=AA (hu2.readE (B':=w.heap.size) hws);have hsz1:=HB1.out.size;obtain⟨A1,c1,rfl, -, -, -⟩:=AS hu1;obtain⟨A2,c2,rfl, -, -, -⟩:=AS hu2;generalize(a.s.e.map bareN).length=n1 at *;generalize(a.s.f.map bareN).length=n2 at *;unfold Rb bareS
   dsimp only
   clear hb hb2 hu1 hu2 hws;go_wp2_with (at_builtin;refine wpList_append_own _ rfl (.tmp 14) (.tmp 18) 39 rfl w.heap.size 44 i0 (.agg #[.int .i64 0,.string ⟨#[]⟩,.string ⟨#[]⟩,.slice none 0 0,.slice none 0 0,.int .i64 0,.int .i64 0,.int .i64 0,.int .i64 0]) 9 120 Tryz.underlying39 HZ.out.1 HZ.out.2.1 HZ.out.2.2.1 HZ.out.2.2.2 rfl (by decide) _ acc.length (Bc acc) rfl ?dO ⟨w1.heap.size,0,none⟩ 1 1 [.int .i64 a.s.kind,.string ⟨a.s.reg.toArray⟩,.string ⟨a.s.name.toArray⟩,.slice A1 n1 c1,.slice A2 n2 c2,.int .i64 a.s.n,.int .i64 a.s.body,.int .i64 a.s.els,.int .i64 0] (by rfl) (by rfl) ?d1 ?d2 ?d3 ?d4 ?d5 ?_)
   case dO=>exact(HA1.out.on ((Below.refl w1.heap.size w1).alloc (Nat.le_refl _) _)).row
   case d1=>exact World.news_of_block (cs:=#[.int .i64 a.s.kind,.string ⟨a.s.reg.toArray⟩,.string ⟨a.s.name.toArray⟩,.slice A1 n1 c1,.slice A2 n2 c2,.int .i64 a.s.n,.int .i64 a.s.body,.int .i64 a.s.els,.int .i64 0]) (alloc_at rfl)
   case d2=>intro y hy;simp at hy;rcases hy with rfl|rfl|rfl|rfl|rfl|rfl|rfl|rfl|rfl<;>rfl
   case d3=>rw[HN.out];unfold maxLen;omega
   case d4=>rw[HN.out];omega
   case d5=>simp;omega
   intro v5 w5 hown5 hgrow5 _;have HB5:Hid (Below w.heap.size w w5):=AA ((HB1.out.alloc hsz1 _).grown hgrow5 (by simp;omega) (fun q hq=>(AI HA1.out.row q hq).1));have HA5:Hid (Jt w5 w.heap.size v5 (acc++[⟨bareS a.s,.slice A1 n1 c1,.slice A2 n2 c2⟩])):=AA (QFA (x:=⟨bareS a.s,.slice A1 n1 c1,.slice A2 n2 c2⟩) (HA1.out.on ((Below.refl w1.heap.size w1).alloc (Nat.le_refl _) _)) ⟨HU1.out.on ((Below.refl w1.heap.size w1).alloc (Nat.le_refl _) _),HU2.out.on ((Below.refl w1.heap.size w1).alloc (Nat.le_refl _) _)⟩ hgrow5 hown5);obtain⟨A5,n5,c5,rfl⟩:∃A n c,v5=.slice A n c:=by
    obtain⟨A,c,hv,_⟩:=AS hown5;exact⟨A,_,c,hv⟩
   clear hown5 hgrow5;go_wp2_with fail
   go_roundw;case rel=>exact⟨k+1,_,by omega,by go_num,HB5.out,HA5.out,by rw[<-HT.out,List.map_append];rfl⟩
   case measure=>simp[intOf];omega
  ·have hkk:K.take k=K:=List.take_of_length_le (by omega);rw[hkk]at hmap;have HM:=AA hmap;clear hbel hacc hmap hkk;go_wp2_with fail
   go_ret;exact⟨_,rfl,⟨acc,HM.out,HA.out.row,HA.out.sub⟩,HB.out⟩
theorem QFB {M:List Stm} {v:Value} {w:World} {B:Nat} (h:Ec w B v M) (hl:M.length<=10000) (hs:∀x∈M,x.e.length<=10000/\x.f.length<=10000):
  Calls Tryz.prog 96 #[v,.func (.func 97) #[] #[]] w (fun e w'=>∃u,e=.returned u/\Ec w' w.heap.size u (M.map bareS)/\Below w.heap.size w w'):=by
 obtain⟨K,rfl,hK,hR⟩:=h;have:=QGX (K:=K) ⟨hK,hR⟩ (by rw[List.length_map]at hl;exact hl) (fun x hx=>hs _ (List.mem_map_of_mem hx));rw[List.map_map];exact this
end Go.Proofs.YthfkpalfopdmhaaGreatDoor
