/- Texts of the walk, packed. -/
import Derived.Test.YthfkpalfopdmhaaGreatDoorX32
import Derived.Test.YthfkpalfopdmhaaGreatDoorX38
import Derived.Test.YthfkpalfopdmhaaGreatDoorX16
import Derived.Deep.RegionWith
import Derived.Deep.CutRange
import Derived.Test.YthfkpalfopdmhaaGreatDoorX00
namespace Go.Proofs.YthfkpalfopdmhaaGreatDoor
open Go.RowKit
def K7 (c:Cut) (w:World) (e:Ending) (w':World):Prop:=
 e=.returned (.tuple #[.agg #[.int .i64 c.kind,.string ⟨c.text.toArray⟩,.int .i64 c.n,.int .i64 0],.int .i64 c.err])∧Below w.heap.size w w'
theorem DF {c c':Cut} {w w':World} {e:Ending} (he:e=.returned (.tuple #[.agg #[.int .i64 c'.kind,.string ⟨c'.text.toArray⟩,.int .i64 c'.n,.int .i64 0],.int .i64 c'.err])) (h:c=c') (hb:Below w.heap.size w w'):K7 c w e w':=by
 subst h;exact⟨he,hb⟩
set_option maxHeartbeats 1000000 in
theorem QBp (s:ByteArray) (w:World) (hs:s.size≤100000):Calls Tryz.prog 130 #[.string s] w (K7 (Di s.data.toList) w):=by
 by_cases hl:16<(s.data.toList.takeWhile wrdB).length
 ·have HC:Hid (Di s.data.toList=.no 2):=AA (by unfold Di;rw[if_pos hl]);generalize ht:s.data.toList.takeWhile wrdB=t at *;have HT:=AA ht;clear ht;go_enter Tryz.func130,Tryz.ntmps130;go_wp2_with fail
  refine(Jt s _ hs).mono ?_;rw[HT.out];rintro e w' ⟨rfl,rfl⟩;go_wp2_with fail
  exact bodyPost_ret (v:=.tuple #[.agg #[.int .i64 0,.string ⟨#[]⟩,.int .i64 0,.int .i64 0],.int .i64 2]) (by simp[results,Tryz.results130,go_sem]) rfl (DF (c':=.no 2) rfl HC.out ((Below.refl _ _).alloc (Nat.le_refl _) _))
 ·have HC:Hid (Di s.data.toList=⟨0,1,s.data.toList.takeWhile wrdB,0⟩):=AA (by unfold Di;rw[if_neg hl]);generalize ht:s.data.toList.takeWhile wrdB=t at *;have HT:=AA ht;clear ht;go_enter Tryz.func130,Tryz.ntmps130;go_wp2_with fail
  refine(Jt s _ hs).mono ?_;rw[HT.out];rintro e w' ⟨rfl,rfl⟩;go_wp2_with fail
  exact bodyPost_ret (v:=.tuple #[.agg #[.int .i64 1,.string ⟨t.toArray⟩,.int .i64 0,.int .i64 0],.int .i64 0]) (by simp[results,Tryz.results130,go_sem]) rfl (DF (c':=⟨0,1,t,0⟩) rfl HC.out ((Below.refl _ _).alloc (Nat.le_refl _) _))
theorem QBq (t:List UInt8):Cd (Lib.trimLeftB t 48)=Cd t:=by
 unfold Lib.trimLeftB
 induction t with
 |nil=>rfl
 |cons c t ih=>
  by_cases h:c=48
  ·subst h;rw[List.dropWhile_cons,if_pos (by decide),ih];rfl
  ·rw[List.dropWhile_cons,if_neg (by simpa using h)]
theorem Zr (t:List UInt8):(Lib.trimLeftB t 48).head?≠some 48:=by
 unfold Lib.trimLeftB
 induction t with
 |nil=>simp
 |cons c t ih=>
  by_cases h:c=48
  ·subst h;rw[List.dropWhile_cons,if_pos (by decide)];exact ih
  ·rw[List.dropWhile_cons,if_neg (by simpa using h)];simpa using h
theorem QBr (t:List UInt8) (h:t.all digB=true):(Lib.trimLeftB t 48).all digB=true:=by
 unfold Lib.trimLeftB;rw[List.all_eq_true]at *;exact fun x hx=>h x ((List.dropWhile_sublist _).subset hx)
theorem Qc (p:UInt8→Bool) (l:List UInt8):(l.takeWhile p).all p=true:=by
 induction l with
 |nil=>rfl
 |cons c l ih=>
  rw[List.takeWhile_cons];cases h:p c with
  |true=>simp[h]
  |false=>simp
theorem Tn (t:List UInt8) (h0:t≠[]) (ha:t.all digB=true) (hh:t.head?≠some 48):MF t=if Cd t<KQ then((Cd t:Int),0)else(0,4):=by
 have h1:t≠[48]:=fun e=>hh (by rw[e];rfl)
 have h45:(t.head?==some 45)=false:=by
  cases t with
  |nil=>exact absurd rfl h0
  |cons c t=>
   have hc:digB c=true:=by simp at ha;exact ha.1
   rw[beq_eq_false_iff_ne];intro e;simp at e;subst e;exact absurd hc (by decide)
 have hp:FH t=true:=by
  unfold FH;rw[ha];simp[h0,hh]
 unfold MF;rw[if_neg h1];simp only[h45,Bool.false_eq_true,if_false];rw[if_neg (by rw[hp];simp)];by_cases hv:Cd t<KQ
 ·rw[if_neg (by simp;omega),if_pos hv]
 ·rw[if_pos (by simp;omega),if_neg hv]
set_option maxHeartbeats 2000000 in
theorem W8 (s:ByteArray) (w:World) (hs:s.size≤100000):Calls Tryz.prog 132 #[.string s] w (K7 (FZ s.data.toList) w):=by
 have hall:=Qc digB s.data.toList;have hC:FZ s.data.toList=if 4294967296<Cd (s.data.toList.takeWhile digB)then .no 4 else⟨0,2,s.data.toList.takeWhile digB,Cd (s.data.toList.takeWhile digB)⟩:=rfl
 generalize ht:s.data.toList.takeWhile digB=t at *;have HT:=AA ht;have HC:=AA hC;have HA:=AA (QBr t hall);have HH:=AA (Zr t);have HV:=AA (QBq t);clear ht hC hall;generalize hu:Lib.trimLeftB t 48=u at *;have HU:=AA hu;clear hu;by_cases h0:u=[]
 ·subst h0;have HR:Hid (FZ s.data.toList=⟨0,2,t,0⟩):=AA (by rw[HC.out,←HV.out];rfl);go_enter Tryz.func132,Tryz.ntmps132;go_wp2_with fail
  refine(Rx s _ hs).mono ?_;rw[HT.out];rintro e w' ⟨rfl,rfl⟩;go_wp2_with fail
  refine(Tryz.strings_TrimLeft_one _ 48 (by decide) _).mono ?_;rintro e w' ⟨rfl,rfl⟩;rw[show(ByteArray.mk t.toArray).data.toList=t from by simp,HU.out];go_wp2_with fail
  exact bodyPost_ret (v:=.tuple #[.agg #[.int .i64 2,.string ⟨t.toArray⟩,.int .i64 0,.int .i64 0],.int .i64 0]) (by simp[results,Tryz.results132,go_sem]) rfl (DF (c':=⟨0,2,t,0⟩) rfl HR.out ((Below.refl _ _).alloc (Nat.le_refl _) _))
 ·have HP:=AA (Tn u h0 HA.out HH.out);have hne:(u==[])=false:=by simpa using h0
  have hne2:u.isEmpty=false:=by simpa using h0
  clear h0;rw[HV.out]at HP;go_enter Tryz.func132,Tryz.ntmps132;go_wp2_with fail
  refine(Rx s _ hs).mono ?_;rw[HT.out];rintro e w' ⟨rfl,rfl⟩;go_wp2_with fail
  refine(Tryz.strings_TrimLeft_one _ 48 (by decide) _).mono ?_;rintro e w' ⟨rfl,rfl⟩;rw[show(ByteArray.mk t.toArray).data.toList=t from by simp,HU.out];go_wp2_with fail
  refine(W6 _ _).mono ?_;rw[show(ByteArray.mk u.toArray).data.toList=u from by simp,HP.out];by_cases hv:Cd t<KQ
  ·rw[if_pos hv];rintro e w1 ⟨rfl,hb⟩;obtain⟨hc,hf⟩:=EB hb;by_cases hg:4294967296<Cd t
   ·have hg2:(4294967296:Int)<(Cd t:Int):=by omega
    have HR:Hid (FZ s.data.toList=.no 4):=AA (by rw[HC.out,if_pos hg]);go_wp2_with fail
    exact bodyPost_ret (v:=.tuple #[.agg #[.int .i64 0,.string ⟨#[]⟩,.int .i64 0,.int .i64 0],.int .i64 4]) (by simp[results,Tryz.results132,go_sem,hc]) rfl (DF (c':=.no 4) rfl HR.out (F7 hb _ _ _ _))
   ·have hg2:¬(4294967296:Int)<(Cd t:Int):=by omega
    have HR:Hid (FZ s.data.toList=⟨0,2,t,Cd t⟩):=AA (by rw[HC.out,if_neg hg]);go_wp2_with fail
    exact bodyPost_ret (v:=.tuple #[.agg #[.int .i64 2,.string ⟨t.toArray⟩,.int .i64 (Cd t),.int .i64 0],.int .i64 0]) (by simp[results,Tryz.results132,go_sem,hc]) rfl (DF (c':=⟨0,2,t,Cd t⟩) rfl HR.out (F7 hb _ _ _ _))
  ·rw[if_neg hv];rintro e w1 ⟨rfl,hb⟩;obtain⟨hc,hf⟩:=EB hb;have HR:Hid (FZ s.data.toList=.no 4):=AA (by rw[HC.out,if_pos (by unfold KQ at hv;omega)]);go_wp2_with fail
   exact bodyPost_ret (v:=.tuple #[.agg #[.int .i64 0,.string ⟨#[]⟩,.int .i64 0,.int .i64 0],.int .i64 4]) (by simp[results,Tryz.results132,go_sem,hc]) rfl (DF (c':=.no 4) rfl HR.out (F7 hb _ _ _ _))
set_option maxRecDepth 100000 in
set_option maxHeartbeats 2000000 in
theorem QDn {F:Nat} (eg:Enters F) {q:Bool} {bx:Nat} {w:World} {x:Cel} (hbx:w.cell? ⟨bx,0,none⟩=some (.func (.func F) #[] #[])) (hl:bx<w.heap.size)
  (hF:∀w',Below w.heap.size w w'→Calls Tryz.prog F #[.agg #[.string ⟨x.name.toArray⟩,.int .i64 x.n,.int .i64 x.pl]] w' (AN q w')):Calls Tryz.prog 102 #[.agg #[.string ⟨x.name.toArray⟩,.int .i64 x.n,.int .i64 x.pl],.pointer (some ⟨bx,0,none⟩)] w (AN (!q) w):=by
 unfold Enters at eg;have HF:=AA hF;clear hF;go_enter Tryz.func102,Tryz.ntmps102;go_wp2_with fail
 refine(HF.out _ ((Below.refl _ _).alloc (Nat.le_refl _) _)).mono ?_;rintro e w1 ⟨rfl,hb⟩;have HB:=AA (Gm hb);clear hb;go_wp2_with fail
 go_ret;exact⟨rfl,HB.out⟩
set_option maxRecDepth 100000 in
set_option maxHeartbeats 2000000 in
theorem QDo {F:Nat} (eg:Enters F) {p:Cel→Bool} {L:List Cel} {v:Value} {w:World} {B bx:Nat} (h:CX w B v L) (hl:L.length≤100000) (hbx:w.cell? ⟨bx,0,none⟩=some (.func (.func F) #[] #[])) (hlb:bx<w.heap.size)
  (hF:∀x∈L,∀w',Below w.heap.size w w'→Calls Tryz.prog F #[.agg #[.string ⟨x.name.toArray⟩,.int .i64 x.n,.int .i64 x.pl]] w' (AN (p (x)) w')):Calls Tryz.prog 150 #[v,.func (.func 102) #[] #[.pointer (some ⟨bx,0,none⟩)]] w (QT (!L.all (fun x=>p (x))) w):=by
 have HF:=AA hF;have HO:=AA h;have HG:=AA eg;have HX:=AA hbx;obtain⟨A,c,hv,hc,hm,hr⟩:=h.reads;subst hv;clear hr hF eg hbx;go_enter Tryz.func150,Tryz.ntmps150;go_wp2_with fail
 go_loopw [8] (fun i wr=>∃k:Nat,k≤L.length∧i=.int .i64 k∧(L.take k).all (fun x=>p (x))=true∧Below w.heap.size w wr) (fun i _=>L.length-(intOf i).toNat)
 case atStart=>exact⟨0,Nat.zero_le _,rfl,rfl,Below.refl _ _⟩
 case round=>
  obtain⟨k,hk,rfl,ha,hb⟩:=hrel;have HA:=AA ha;have HB:=AA hb;clear ha;by_cases hlt:k<L.length
  ·have hat:L[k]?=some L[k]:=List.getElem?_eq_getElem hlt;have hin:=List.getElem_mem hlt;generalize L[k]=a at *;obtain⟨A',c',hv',_,_,hr'⟩:=(HO.out.on hb).reads;obtain⟨rfl,_,rfl⟩:A=A'∧True∧c=c':=by simpa using hv'
   obtain⟨g,rfl,hgB,hg,x0,x1,x2⟩:=hr' k a hat;clear hr' hv' hgB;have HC:Hid (Calls Tryz.prog 102 #[.agg #[.string ⟨a.name.toArray⟩,.int .i64 a.n,.int .i64 a.pl],.pointer (some ⟨bx,0,none⟩)] wr (AN (!p (a)) wr)):=AA (QDn HG.out ((hb.cell (p:=⟨bx,0,none⟩) hlb).trans HX.out) (by have:=hb.size;omega) (fun w' h'=>HF.out a hin w' (AC hb h')));clear hb;cases hw:p (a)with
   |true=>
    have HN:=AA (QR (p:=fun x=>p (x)) hat HA.out hw);have HW:=AA hw;clear hat hw;go_wp2_with fail
    refine HC.out.mono ?_;rw[HW.out];rintro e w1 ⟨rfl,hb⟩;have HB2:=AA (AC HB.out hb);clear hb;go_wp2_with fail
    go_roundw;case rel=>exact⟨k+1,by omega,by go_num,HN.out,HB2.out⟩
    case measure=>simp[intOf];omega
   |false=>
    have HN:=AA (QS (p:=fun x=>p (x)) hat hw);have HW:=AA hw;clear hat hw;go_wp2_with fail
    refine HC.out.mono ?_;rw[HW.out];rintro e w1 ⟨rfl,hb⟩;have HB2:=AA (AC HB.out hb);clear hb;go_wp2_with fail
    go_ret;exact⟨k,rfl,by rw[HN.out];simp,HB2.out⟩
  ·go_wp2_with fail
   go_ret;have h1:=HA.out;rw[List.take_of_length_le (by omega)]at h1;exact⟨-1,rfl,by rw[h1];rfl,HB.out⟩
set_option maxRecDepth 100000 in
set_option maxHeartbeats 2000000 in
theorem QB7 {F:Nat} (eg:Enters F) {p:Cel→Bool} {L:List Cel} {v:Value} {w:World} {B bx:Nat} (h:CX w B v L) (hl:L.length≤100000) (hbx:w.cell? ⟨bx,0,none⟩=some (.func (.func F) #[] #[])) (hlb:bx<w.heap.size)
  (hF:∀x∈L,∀w',Below w.heap.size w w'→Calls Tryz.prog F #[.agg #[.string ⟨x.name.toArray⟩,.int .i64 x.n,.int .i64 x.pl]] w' (AN (p (x)) w')):Calls Tryz.prog 101 #[v,.func (.func 102) #[] #[.pointer (some ⟨bx,0,none⟩)]] w (AN (!L.all (fun x=>p (x))) w):=by
 have HI:=AA (QDo eg h hl hbx hlb hF);clear h hF eg hbx;go_enter Tryz.func101,Tryz.ntmps101;go_wp2_with fail
 refine HI.out.mono ?_;rintro e w1 ⟨n,rfl,hn,hb⟩;have HB:=AA hb;have HN:=AA hn;clear hb hn;go_wp2_with fail
 go_ret;exact⟨AH HN.out,HB.out⟩
set_option maxRecDepth 100000 in
set_option maxHeartbeats 2000000 in
theorem Tq {F:Nat} (eg:Enters F) (p:Cel→Bool) {L:List Cel} {v:Value} {w:World} {B:Nat} (h:CX w B v L) (hl:L.length≤100000)
  (hF:∀x∈L,∀w',Below w.heap.size w w'→Calls Tryz.prog F #[.agg #[.string ⟨x.name.toArray⟩,.int .i64 x.n,.int .i64 x.pl]] w' (AN (p (x)) w')):Calls Tryz.prog 44 #[v,.func (.func F) #[] #[]] w (AN (L.all (fun x=>p (x))) w):=by
 have HB0:Hid (Below w.heap.size w (w.alloc (.cells #[.func (.func F) #[] #[]] 82))):=AA ((Below.refl _ _).alloc (Nat.le_refl _) _);have HI:Hid (Calls Tryz.prog 101 #[v,.func (.func 102) #[] #[.pointer (some ⟨w.heap.size,0,none⟩)]] (w.alloc (.cells #[.func (.func F) #[] #[]] 82)) (AN (!L.all (fun x=>p (x))) (w.alloc (.cells #[.func (.func F) #[] #[]] 82)))):=
  AA (QB7 eg (h.on HB0.out) hl (by simp) (by simp) (fun x hx w' h'=>hF x hx w' (AC HB0.out h')))
 clear h hF eg;go_enter Tryz.func44,Tryz.ntmps44;go_wp2_with fail
 refine HI.out.mono ?_;rintro e w1 ⟨rfl,hb⟩;have HB:=AA (AC HB0.out hb);clear hb;go_wp2_with fail
 go_ret;exact⟨AH (by simp),HB.out⟩
set_option maxRecDepth 100000 in
set_option maxHeartbeats 2000000 in
theorem QDs {F:Nat} (eg:Enters F) {q:Bool} {bx:Nat} {w:World} {x:Tv} (hbx:w.cell? ⟨bx,0,none⟩=some (.func (.func F) #[] #[])) (hl:bx<w.heap.size)
  (hF:∀w',Below w.heap.size w w'→Calls Tryz.prog F #[.agg #[.string ⟨x.t.name.toArray⟩,x.vR,x.vB,.int .i64 x.t.pl]] w' (AN q w')):Calls Tryz.prog 106 #[.agg #[.string ⟨x.t.name.toArray⟩,x.vR,x.vB,.int .i64 x.t.pl],.pointer (some ⟨bx,0,none⟩)] w (AN (!q) w):=by
 unfold Enters at eg;have HF:=AA hF;clear hF;go_enter Tryz.func106,Tryz.ntmps106;go_wp2_with fail
 refine(HF.out _ ((Below.refl _ _).alloc (Nat.le_refl _) _)).mono ?_;rintro e w1 ⟨rfl,hb⟩;have HB:=AA (Gm hb);clear hb;go_wp2_with fail
 go_ret;exact⟨rfl,HB.out⟩
set_option maxRecDepth 100000 in
set_option maxHeartbeats 2000000 in
theorem QDt {F:Nat} (eg:Enters F) {p:Thr→Bool} {L:List Tv} {v:Value} {w:World} {B bx:Nat} (h:DY w B v L) (hl:L.length≤100000) (hbx:w.cell? ⟨bx,0,none⟩=some (.func (.func F) #[] #[])) (hlb:bx<w.heap.size)
  (hF:∀x∈L,∀w',Below w.heap.size w w'→Calls Tryz.prog F #[.agg #[.string ⟨x.t.name.toArray⟩,x.vR,x.vB,.int .i64 x.t.pl]] w' (AN (p (x.t)) w')):Calls Tryz.prog 153 #[v,.func (.func 106) #[] #[.pointer (some ⟨bx,0,none⟩)]] w (QT (!L.all (fun x=>p (x.t))) w):=by
 have HF:=AA hF;have HO:=AA h;have HG:=AA eg;have HX:=AA hbx;obtain⟨A,c,hv,hc,hm,hr⟩:=h.reads;subst hv;clear hr hF eg hbx;go_enter Tryz.func153,Tryz.ntmps153;go_wp2_with fail
 go_loopw [8] (fun i wr=>∃k:Nat,k≤L.length∧i=.int .i64 k∧(L.take k).all (fun x=>p (x.t))=true∧Below w.heap.size w wr) (fun i _=>L.length-(intOf i).toNat)
 case atStart=>exact⟨0,Nat.zero_le _,rfl,rfl,Below.refl _ _⟩
 case round=>
  obtain⟨k,hk,rfl,ha,hb⟩:=hrel;have HA:=AA ha;have HB:=AA hb;clear ha;by_cases hlt:k<L.length
  ·have hat:L[k]?=some L[k]:=List.getElem?_eq_getElem hlt;have hin:=List.getElem_mem hlt;generalize L[k]=a at *;obtain⟨A',c',hv',_,_,hr'⟩:=(HO.out.on hb).reads;obtain⟨rfl,_,rfl⟩:A=A'∧True∧c=c':=by simpa using hv'
   obtain⟨g,rfl,hgB,hg,x0,x1,x2,x3⟩:=hr' k a hat;clear hr' hv' hgB;have HC:Hid (Calls Tryz.prog 106 #[.agg #[.string ⟨a.t.name.toArray⟩,a.vR,a.vB,.int .i64 a.t.pl],.pointer (some ⟨bx,0,none⟩)] wr (AN (!p (a.t)) wr)):=AA (QDs HG.out ((hb.cell (p:=⟨bx,0,none⟩) hlb).trans HX.out) (by have:=hb.size;omega) (fun w' h'=>HF.out a hin w' (AC hb h')));clear hb;cases hw:p (a.t)with
   |true=>
    have HN:=AA (QR (p:=fun x=>p (x.t)) hat HA.out hw);have HW:=AA hw;clear hat hw;go_wp2_with fail
    refine HC.out.mono ?_;rw[HW.out];rintro e w1 ⟨rfl,hb⟩;have HB2:=AA (AC HB.out hb);clear hb;go_wp2_with fail
    go_roundw;case rel=>exact⟨k+1,by omega,by go_num,HN.out,HB2.out⟩
    case measure=>simp[intOf];omega
   |false=>
    have HN:=AA (QS (p:=fun x=>p (x.t)) hat hw);have HW:=AA hw;clear hat hw;go_wp2_with fail
    refine HC.out.mono ?_;rw[HW.out];rintro e w1 ⟨rfl,hb⟩;have HB2:=AA (AC HB.out hb);clear hb;go_wp2_with fail
    go_ret;exact⟨k,rfl,by rw[HN.out];simp,HB2.out⟩
  ·go_wp2_with fail
   go_ret;have h1:=HA.out;rw[List.take_of_length_le (by omega)]at h1;exact⟨-1,rfl,by rw[h1];rfl,HB.out⟩
set_option maxRecDepth 100000 in
set_option maxHeartbeats 2000000 in
theorem QB9 {F:Nat} (eg:Enters F) {p:Thr→Bool} {L:List Tv} {v:Value} {w:World} {B bx:Nat} (h:DY w B v L) (hl:L.length≤100000) (hbx:w.cell? ⟨bx,0,none⟩=some (.func (.func F) #[] #[])) (hlb:bx<w.heap.size)
  (hF:∀x∈L,∀w',Below w.heap.size w w'→Calls Tryz.prog F #[.agg #[.string ⟨x.t.name.toArray⟩,x.vR,x.vB,.int .i64 x.t.pl]] w' (AN (p (x.t)) w')):Calls Tryz.prog 105 #[v,.func (.func 106) #[] #[.pointer (some ⟨bx,0,none⟩)]] w (AN (!L.all (fun x=>p (x.t))) w):=by
 have HI:=AA (QDt eg h hl hbx hlb hF);clear h hF eg hbx;go_enter Tryz.func105,Tryz.ntmps105;go_wp2_with fail
 refine HI.out.mono ?_;rintro e w1 ⟨n,rfl,hn,hb⟩;have HB:=AA hb;have HN:=AA hn;clear hb hn;go_wp2_with fail
 go_ret;exact⟨AH HN.out,HB.out⟩
set_option maxRecDepth 100000 in
set_option maxHeartbeats 2000000 in
theorem X1 {F:Nat} (eg:Enters F) (p:Thr→Bool) {L:List Tv} {v:Value} {w:World} {B:Nat} (h:DY w B v L) (hl:L.length≤100000)
  (hF:∀x∈L,∀w',Below w.heap.size w w'→Calls Tryz.prog F #[.agg #[.string ⟨x.t.name.toArray⟩,x.vR,x.vB,.int .i64 x.t.pl]] w' (AN (p (x.t)) w')):Calls Tryz.prog 47 #[v,.func (.func F) #[] #[]] w (AN (L.all (fun x=>p (x.t))) w):=by
 have HB0:Hid (Below w.heap.size w (w.alloc (.cells #[.func (.func F) #[] #[]] 84))):=AA ((Below.refl _ _).alloc (Nat.le_refl _) _);have HI:Hid (Calls Tryz.prog 105 #[v,.func (.func 106) #[] #[.pointer (some ⟨w.heap.size,0,none⟩)]] (w.alloc (.cells #[.func (.func F) #[] #[]] 84)) (AN (!L.all (fun x=>p (x.t))) (w.alloc (.cells #[.func (.func F) #[] #[]] 84)))):=
  AA (QB9 eg (h.on HB0.out) hl (by simp) (by simp) (fun x hx w' h'=>hF x hx w' (AC HB0.out h')))
 clear h hF eg;go_enter Tryz.func47,Tryz.ntmps47;go_wp2_with fail
 refine HI.out.mono ?_;rintro e w1 ⟨rfl,hb⟩;have HB:=AA (AC HB0.out hb);clear hb;go_wp2_with fail
 go_ret;exact⟨AH (by simp),HB.out⟩
theorem BH {P:Nat→Prop} {w w':World} {p:Addr} {u:Value} (h:AG P w w') (hP:P p.block):AG P w (w'.setCell p u):=
 h.trans (Q:=fun q=>q=p.block) ⟨rfl,rfl,rfl,by simp[World.setCell],fun k _ hk=>Below.heap_setCell _ _ _ _ hk⟩ (fun _ _ h=>h) (fun k _ e=>e▸hP)
theorem As {w:World} {B T j:Nat} {cs:Array Value} {v:Value} (h:w.heap[B]?=some (.cells cs T (0,0))):(w.setCell ⟨B,j,none⟩ v).heap[B]?=some (.cells (cs.setIfInBounds j v) T (0,0)):=by
 obtain⟨hlt,hk⟩:=Array.getElem?_eq_some_iff.1 h;show(w.heap.modify B _)[B]?=_;rw[Array.getElem?_eq_getElem (by rw[Array.size_modify];exact hlt),Array.getElem_modify_self,hk];rfl
theorem CZ {w:World} {B C j:Nat} {v:Value} {o:Obj} (h:w.heap[B]?=some o) (hn:B≠C):(w.setCell ⟨C,j,none⟩ v).heap[B]?=some o:=by
 rw[Below.heap_setCell w ⟨C,j,none⟩ v B hn];exact h
theorem QCI {w:World} {d T:Nat} {a0 a1 a2 a3 a4 a5 a6 a7 a8:Value} (h:w.heap[d]?=some (.cells #[a0,a1,a2,a3,a4,a5,a6,a7,a8] T (0,0))) (u0 u1 u2 u3 u4 u5 u6 u7 u8:Value):((((((((((w.setCell ⟨d,0,none⟩ u0).setCell ⟨d,1,none⟩ u1).setCell ⟨d,2,none⟩ u2).setCell ⟨d,3,none⟩ u3).setCell ⟨d,4,none⟩ u4).setCell ⟨d,5,none⟩ u5).setCell ⟨d,6,none⟩ u6).setCell ⟨d,7,none⟩ u7).setCell ⟨d,8,none⟩ u8)).heap[d]?=some (.cells #[u0,u1,u2,u3,u4,u5,u6,u7,u8] T (0,0)):=by
 have h0:(w.setCell ⟨d,0,none⟩ u0).heap[d]?=some (.cells #[u0,a1,a2,a3,a4,a5,a6,a7,a8] T (0,0)):=As h;have h1:((w.setCell ⟨d,0,none⟩ u0).setCell ⟨d,1,none⟩ u1).heap[d]?=some (.cells #[u0,u1,a2,a3,a4,a5,a6,a7,a8] T (0,0)):=As h0;have h2:(((w.setCell ⟨d,0,none⟩ u0).setCell ⟨d,1,none⟩ u1).setCell ⟨d,2,none⟩ u2).heap[d]?=some (.cells #[u0,u1,u2,a3,a4,a5,a6,a7,a8] T (0,0)):=As h1;have h3:((((w.setCell ⟨d,0,none⟩ u0).setCell ⟨d,1,none⟩ u1).setCell ⟨d,2,none⟩ u2).setCell ⟨d,3,none⟩ u3).heap[d]?=some (.cells #[u0,u1,u2,u3,a4,a5,a6,a7,a8] T (0,0)):=As h2
 have h4:(((((w.setCell ⟨d,0,none⟩ u0).setCell ⟨d,1,none⟩ u1).setCell ⟨d,2,none⟩ u2).setCell ⟨d,3,none⟩ u3).setCell ⟨d,4,none⟩ u4).heap[d]?=some (.cells #[u0,u1,u2,u3,u4,a5,a6,a7,a8] T (0,0)):=As h3;have h5:((((((w.setCell ⟨d,0,none⟩ u0).setCell ⟨d,1,none⟩ u1).setCell ⟨d,2,none⟩ u2).setCell ⟨d,3,none⟩ u3).setCell ⟨d,4,none⟩ u4).setCell ⟨d,5,none⟩ u5).heap[d]?=some (.cells #[u0,u1,u2,u3,u4,u5,a6,a7,a8] T (0,0)):=As h4
 have h6:(((((((w.setCell ⟨d,0,none⟩ u0).setCell ⟨d,1,none⟩ u1).setCell ⟨d,2,none⟩ u2).setCell ⟨d,3,none⟩ u3).setCell ⟨d,4,none⟩ u4).setCell ⟨d,5,none⟩ u5).setCell ⟨d,6,none⟩ u6).heap[d]?=some (.cells #[u0,u1,u2,u3,u4,u5,u6,a7,a8] T (0,0)):=As h5;have h7:((((((((w.setCell ⟨d,0,none⟩ u0).setCell ⟨d,1,none⟩ u1).setCell ⟨d,2,none⟩ u2).setCell ⟨d,3,none⟩ u3).setCell ⟨d,4,none⟩ u4).setCell ⟨d,5,none⟩ u5).setCell ⟨d,6,none⟩ u6).setCell ⟨d,7,none⟩ u7).heap[d]?=some (.cells #[u0,u1,u2,u3,u4,u5,u6,u7,a8] T (0,0)):=As h6
 have h8:(((((((((w.setCell ⟨d,0,none⟩ u0).setCell ⟨d,1,none⟩ u1).setCell ⟨d,2,none⟩ u2).setCell ⟨d,3,none⟩ u3).setCell ⟨d,4,none⟩ u4).setCell ⟨d,5,none⟩ u5).setCell ⟨d,6,none⟩ u6).setCell ⟨d,7,none⟩ u7).setCell ⟨d,8,none⟩ u8).heap[d]?=some (.cells #[u0,u1,u2,u3,u4,u5,u6,u7,u8] T (0,0)):=As h7;exact h8
theorem QD6 {w:World} {d T:Nat} {a0 a1 a2 a3 a4 a5 a6 a7 a8:Value} (h:w.heap[d]?=some (.cells #[a0,a1,a2,a3,a4,a5,a6,a7,a8] T (0,0))) (u v:Value):((w.setCell ⟨d,3,none⟩ u).setCell ⟨d,4,none⟩ v).heap[d]?=some (.cells #[a0,a1,a2,u,v,a5,a6,a7,a8] T (0,0)):=by
 have h1:(w.setCell ⟨d,3,none⟩ u).heap[d]?=some (.cells #[a0,a1,a2,u,a4,a5,a6,a7,a8] T (0,0)):=As h;exact As h1
theorem Z4 {b d:Nat} (w:World) (v u0 u1 u2 u3 u4 u5 u6 u7 u8:Value):AG (fun q=>q=b∨q=d) w ((((((((((w.setCell ⟨b,8,none⟩ v).setCell ⟨d,0,none⟩ u0).setCell ⟨d,1,none⟩ u1).setCell ⟨d,2,none⟩ u2).setCell ⟨d,3,none⟩ u3).setCell ⟨d,4,none⟩ u4).setCell ⟨d,5,none⟩ u5).setCell ⟨d,6,none⟩ u6).setCell ⟨d,7,none⟩ u7).setCell ⟨d,8,none⟩ u8):=(BH (BH (BH (BH (BH (BH (BH (BH (BH (BH (AG.refl _ _) (.inl rfl)) (.inr rfl)) (.inr rfl)) (.inr rfl)) (.inr rfl)) (.inr rfl)) (.inr rfl)) (.inr rfl)) (.inr rfl)) (.inr rfl))
def Z5 (x:Stm) (w:World) (e:Ending) (w':World):Prop:=∃u1 u2,e=.returned (Qs (bareS x) u1 u2)∧CL w' w.heap.size u1 (x.e.map bareN)∧CL w' w.heap.size u2 (x.f.map bareN)∧Below w.heap.size w w'
def QEV (k:Int) (reg name:List UInt8) (e f:List Nod) (n body els pl:Int) (b d BY:Nat) (w wx:World):Prop:=∃A1 c1 A2 c2,wx.heap[b]?=some (.cells #[.int .i64 k,.string ⟨reg.toArray⟩,.string ⟨name.toArray⟩,.slice A1 e.length c1,.slice A2 f.length c2,.int .i64 n,.int .i64 body,.int .i64 els,.int .i64 pl] 44 (0,0))∧wx.heap[d]?=some (.cells #[.int .i64 0,.string ⟨#[]⟩,.string ⟨#[]⟩,.slice none 0 0,.slice none 0 0,.int .i64 0,.int .i64 0,.int .i64 0,.int .i64 0] 44 (0,0))∧CL wx BY (.slice A1 e.length c1) (e.map bareN)∧CL wx BY (.slice A2 f.length c2) (f.map bareN)∧Below w.heap.size w wx
set_option maxRecDepth 100000 in
set_option maxHeartbeats 8000000 in
theorem QFI (x:Stm) {vE vF:Value} {w:World} (hE:BA w vE x.e) (hF:BA w vF x.f) (hl:x.e.length≤10000) (hl2:x.f.length≤10000):Calls Tryz.prog 97 #[Qs x vE vF] w (Z5 x w):=by
 obtain⟨k,reg,name,e,f,n,body,els,pl⟩:=x;obtain⟨AE,cE,rfl,_⟩:=id hE;obtain⟨AF,cF,rfl,_⟩:=id hF;simp only at *;have HL:=AA (And.intro hl hl2);clear hl hl2;unfold Qs;simp only;have HB1:=AA ((Below.refl w.heap.size w).alloc (Nat.le_refl _) (.cells #[.int .i64 k,.string ⟨reg.toArray⟩,.string ⟨name.toArray⟩,.slice AE e.length cE,.slice AF f.length cF,.int .i64 n,.int .i64 body,.int .i64 els,.int .i64 pl] 44));have N1:=AA (heap_alloc_new w (.cells #[.int .i64 k,.string ⟨reg.toArray⟩,.string ⟨name.toArray⟩,.slice AE e.length cE,.slice AF f.length cF,.int .i64 n,.int .i64 body,.int .i64 els,.int .i64 pl] 44))
 go_enter Tryz.func97,Tryz.ntmps97;go_upto_region 1 with(fail)
 obtain⟨b,hb⟩:∃b,w.heap.size=b:=⟨_,rfl⟩
 have hz:w.heap.size+1=(w.alloc (.cells #[.int .i64 k,.string ⟨reg.toArray⟩,.string ⟨name.toArray⟩,.slice AE e.length cE,.slice AF f.length cF,.int .i64 n,.int .i64 body,.int .i64 els,.int .i64 pl] 44)).heap.size:=by simp
 rw[hz];rw[hb]at N1⊢;generalize w.alloc (.cells #[.int .i64 k,.string ⟨reg.toArray⟩,.string ⟨name.toArray⟩,.slice AE e.length cE,.slice AF f.length cF,.int .i64 n,.int .i64 body,.int .i64 els,.int .i64 pl] 44)=X at *;have HN1X:=AA N1.out;have HB2:=AA ((Below.refl X.heap.size X).alloc (Nat.le_refl _) (.cells #[.int .i64 0,.string ⟨#[]⟩,.string ⟨#[]⟩,.slice none 0 0,.slice none 0 0,.int .i64 0,.int .i64 0,.int .i64 0,.int .i64 0] 44));have N2:=AA (heap_alloc_new X (.cells #[.int .i64 0,.string ⟨#[]⟩,.string ⟨#[]⟩,.slice none 0 0,.slice none 0 0,.int .i64 0,.int .i64 0,.int .i64 0,.int .i64 0] 44))
 have N1':=AA ((HB2.out.block b (Array.getElem?_eq_some_iff.1 N1.out).1).trans N1.out);generalize X.alloc (.cells #[.int .i64 0,.string ⟨#[]⟩,.string ⟨#[]⟩,.slice none 0 0,.slice none 0 0,.int .i64 0,.int .i64 0,.int .i64 0,.int .i64 0] 44)=Y at *;have HB:=AA (AC HB1.out HB2.out);have HEat:=AA (fun w' (h':Below Y.heap.size Y w')=>T0 ((hE.on HB.out).on h') HL.out.1);have HFat:=AA (fun w' (h':Below Y.heap.size Y w')=>T0 ((hF.on HB.out).on h') HL.out.2);have z3:Y.cell? ⟨b,3,none⟩=some (.slice AE e.length cE):=by rw[Lib.cell_of_heap N1'.out];rfl
 have z4:Y.cell? ⟨b,4,none⟩=some (.slice AF f.length cF):=by rw[Lib.cell_of_heap N1'.out];rfl
 have hlt:=(Array.getElem?_eq_some_iff.1 N1'.out).1;have HLW:=AA (show w.heap.size≤b∧w.heap.size≤X.heap.size from⟨by omega,by omega⟩);clear N1 HB1 HB2 hz hE hF;obtain⟨d,hd⟩:∃d,X.heap.size=d:=⟨_,rfl⟩
 rw[hd]at N2⊢;have hne:b≠d:=by have:=(Array.getElem?_eq_some_iff.1 HN1X.out).1;omega
 have hlt1:=(Array.getElem?_eq_some_iff.1 N2.out).1;have HLOW:Hid (w.heap.size≤b∧w.heap.size≤d):=AA (by have:=HLW.out;omega)
 go_cut []from 3 to 10 (fun wx=>QEV k reg name e f n body els pl b d Y.heap.size w wx)
 case first=>
  go_region_with (first|(go_at_call 98;first
   |(refine(HEat.out _ (by first|exact Below.refl _ _|exact AD _)).mono ?_;rintro e1 w1 ⟨u1,rfl,ho1,hb1⟩;have hx1:=(hb1.block b hlt).trans N1'.out;have y4:w1.cell? ⟨b,4,none⟩=some (.slice AF f.length cF):=(by rw[Lib.cell_of_heap hx1];rfl);obtain⟨A1,c1,hv1, -, -, -⟩:=AX ho1;subst hv1)
   |(refine(HFat.out _ (by first|exact AC (AD _) hb1|exact AC (AC (AD _) hb1) (AD _))).mono ?_;rintro e2 w2 ⟨u2,rfl,ho2,hb2⟩;have hx2:=(hb2.block b (Array.getElem?_eq_some_iff.1 hx1).1).trans hx1;have hlt2:=(Array.getElem?_eq_some_iff.1 hx2).1;have x3:w2.cell? ⟨b,3,none⟩=some (.slice AE e.length cE):=(by rw[Lib.cell_of_heap hx2];rfl);have x4:w2.cell? ⟨b,4,none⟩=some (.slice AF f.length cF):=(by rw[Lib.cell_of_heap hx2];rfl);have f3:=Lib.frozen_of_heap hx2 3;have f4:=Lib.frozen_of_heap hx2 4;obtain⟨A2,c2,hv2, -, -, -⟩:=AX ho2;subst hv2)))
  all_goals
   have hd1:=(hb1.block d hlt1).trans N2.out;have hd2:=(hb2.block d (Array.getElem?_eq_some_iff.1 hd1).1).trans hd1;have hm1:(e.map bareN).length=e.length:=List.length_map _;have hm2:(f.map bareN).length=f.length:=List.length_map _;rw[hm1]at ho1;rw[hm2]at ho2;have HO1:CL w2 Y.heap.size (.slice A1 e.length c1) (e.map bareN):=by first|exact ho1.on hb2|exact(ho1.on (AD _)).on hb2
   have HO2:CL w2 Y.heap.size (.slice A2 f.length c2) (f.map bareN):=ho2.base (by have:=hb1.size;first|exact this|(simp;exact this));have HY2:Below Y.heap.size Y w2:=AC (by first|exact hb1|exact AC (AD _) hb1) (by first|exact hb2|exact AC (AD _) hb2);have hbY:=(Array.getElem?_eq_some_iff.1 N1'.out).1;have hZ:((w2.setCell ⟨b,3,none⟩ (.slice A1 e.length c1)).setCell ⟨b,4,none⟩ (.slice A2 f.length c2)).heap[b]?=some (.cells #[.int .i64 k,.string ⟨reg.toArray⟩,.string ⟨name.toArray⟩,.slice A1 e.length c1,.slice A2 f.length c2,.int .i64 n,.int .i64 body,.int .i64 els,.int .i64 pl] 44 (0,0)):=QD6 hx2 _ _
   have hzd:((w2.setCell ⟨b,3,none⟩ (.slice A1 e.length c1)).setCell ⟨b,4,none⟩ (.slice A2 f.length c2)).heap[d]?=some (.cells #[.int .i64 0,.string ⟨#[]⟩,.string ⟨#[]⟩,.slice none 0 0,.slice none 0 0,.int .i64 0,.int .i64 0,.int .i64 0,.int .i64 0] 44 (0,0)):=CZ (CZ hd2 (fun h=>hne h.symm)) (fun h=>hne h.symm);have HKZ:AG (fun q=>q=b) w2 ((w2.setCell ⟨b,3,none⟩ (.slice A1 e.length c1)).setCell ⟨b,4,none⟩ (.slice A2 f.length c2)):=BH (BH (AG.refl _ _) rfl) rfl;have HOZ1:=AW HO1 HKZ (fun q hq h=>by have:=(AM HO1 q hq).1;omega)
   have HOZ2:=AW HO2 HKZ (fun q hq h=>by have:=(AM HO2 q hq).1;omega);have HBZ:=(AC HB.out HY2).trans (HKZ.below (B:=w.heap.size) (fun k hk h=>by omega) (AC HB.out HY2).size);have HR:=AA (show QEV k reg name e f n body els pl b d Y.heap.size w ((w2.setCell ⟨b,3,none⟩ (.slice A1 e.length c1)).setCell ⟨b,4,none⟩ (.slice A2 f.length c2))from⟨A1,c1,A2,c2,hZ,hzd,HOZ1,HOZ2,HBZ⟩);clear hZ hzd HKZ HOZ1 HOZ2 HBZ HY2 HO1 HO2 hx1 hx2 hd1 hd2 ho1 ho2 hb1 hb2;go_wp2_with fail
   go_meet;case rel=>first|exact HR.out|exact HR.out.drew
 case rest=>
  obtain⟨A1,c1,A2,c2,hZ,hzd,ho1,ho2,hbz⟩:=hcut;generalize wc=Z at *;have HO1Z:=AA ho1;have HO2Z:=AA ho2;have HBZ:=AA hbz;have hYb:b<Y.heap.size∧d<Y.heap.size:=⟨hlt,hlt1⟩
  have HYB:=AA hYb;have z0:Z.cell? ⟨b,0,none⟩=some (.int .i64 k):=by rw[Lib.cell_of_heap hZ];rfl
  have z1:Z.cell? ⟨b,1,none⟩=some (.string ⟨reg.toArray⟩):=by rw[Lib.cell_of_heap hZ];rfl
  have z2:Z.cell? ⟨b,2,none⟩=some (.string ⟨name.toArray⟩):=by rw[Lib.cell_of_heap hZ];rfl
  have z3:Z.cell? ⟨b,3,none⟩=some (.slice A1 e.length c1):=by rw[Lib.cell_of_heap hZ];rfl
  have z4:Z.cell? ⟨b,4,none⟩=some (.slice A2 f.length c2):=by rw[Lib.cell_of_heap hZ];rfl
  have z5:Z.cell? ⟨b,5,none⟩=some (.int .i64 n):=by rw[Lib.cell_of_heap hZ];rfl
  have z6:Z.cell? ⟨b,6,none⟩=some (.int .i64 body):=by rw[Lib.cell_of_heap hZ];rfl
  have z7:Z.cell? ⟨b,7,none⟩=some (.int .i64 els):=by rw[Lib.cell_of_heap hZ];rfl
  have z8:Z.cell? ⟨b,8,none⟩=some (.int .i64 pl):=by rw[Lib.cell_of_heap hZ];rfl
  have f8:=Lib.frozen_of_heap hZ 8;have y0:Z.cell? ⟨d,0,none⟩=some (.int .i64 0):=by rw[Lib.cell_of_heap hzd];rfl
  have k0:=Lib.frozen_of_heap hzd 0;have y1:Z.cell? ⟨d,1,none⟩=some (.string ⟨#[]⟩):=by rw[Lib.cell_of_heap hzd];rfl
  have k1:=Lib.frozen_of_heap hzd 1;have y2:Z.cell? ⟨d,2,none⟩=some (.string ⟨#[]⟩):=by rw[Lib.cell_of_heap hzd];rfl
  have k2:=Lib.frozen_of_heap hzd 2;have y3:Z.cell? ⟨d,3,none⟩=some (.slice none 0 0):=by rw[Lib.cell_of_heap hzd];rfl
  have k3:=Lib.frozen_of_heap hzd 3;have y4:Z.cell? ⟨d,4,none⟩=some (.slice none 0 0):=by rw[Lib.cell_of_heap hzd];rfl
  have k4:=Lib.frozen_of_heap hzd 4;have y5:Z.cell? ⟨d,5,none⟩=some (.int .i64 0):=by rw[Lib.cell_of_heap hzd];rfl
  have k5:=Lib.frozen_of_heap hzd 5;have y6:Z.cell? ⟨d,6,none⟩=some (.int .i64 0):=by rw[Lib.cell_of_heap hzd];rfl
  have k6:=Lib.frozen_of_heap hzd 6;have y7:Z.cell? ⟨d,7,none⟩=some (.int .i64 0):=by rw[Lib.cell_of_heap hzd];rfl
  have k7:=Lib.frozen_of_heap hzd 7;have y8:Z.cell? ⟨d,8,none⟩=some (.int .i64 0):=by rw[Lib.cell_of_heap hzd];rfl
  have k8:=Lib.frozen_of_heap hzd 8;have HF:=AA (QCI (CZ (j:=8) (v:=.int .i64 0) hzd (fun h=>hne h.symm)) (.int .i64 k) (.string ⟨reg.toArray⟩) (.string ⟨name.toArray⟩) (.slice A1 e.length c1) (.slice A2 f.length c2) (.int .i64 n) (.int .i64 body) (.int .i64 els) (.int .i64 0));have HKF:=AA (Z4 (b:=b) (d:=d) Z (.int .i64 0) (.int .i64 k) (.string ⟨reg.toArray⟩) (.string ⟨name.toArray⟩) (.slice A1 e.length c1) (.slice A2 f.length c2) (.int .i64 n) (.int .i64 body) (.int .i64 els) (.int .i64 0));clear hZ hzd ho1 ho2 hbz hYb N2 N1' HEat HFat hlt hlt1;go_wp2_with fail
  generalize(((((((((Z.setCell ⟨b,8,none⟩ (.int .i64 0)).setCell ⟨d,0,none⟩ (.int .i64 k)).setCell ⟨d,1,none⟩ (.string ⟨reg.toArray⟩)).setCell ⟨d,2,none⟩ (.string ⟨name.toArray⟩)).setCell ⟨d,3,none⟩ (.slice A1 e.length c1)).setCell ⟨d,4,none⟩ (.slice A2 f.length c2)).setCell ⟨d,5,none⟩ (.int .i64 n)).setCell ⟨d,6,none⟩ (.int .i64 body)).setCell ⟨d,7,none⟩ (.int .i64 els)).setCell ⟨d,8,none⟩ (.int .i64 0)=V at *;have v0:V.cell? ⟨d,0,none⟩=some (.int .i64 k):=by rw[Lib.cell_of_heap HF.out];rfl
  have v1:V.cell? ⟨d,1,none⟩=some (.string ⟨reg.toArray⟩):=by rw[Lib.cell_of_heap HF.out];rfl
  have v2:V.cell? ⟨d,2,none⟩=some (.string ⟨name.toArray⟩):=by rw[Lib.cell_of_heap HF.out];rfl
  have v3:V.cell? ⟨d,3,none⟩=some (.slice A1 e.length c1):=by rw[Lib.cell_of_heap HF.out];rfl
  have v4:V.cell? ⟨d,4,none⟩=some (.slice A2 f.length c2):=by rw[Lib.cell_of_heap HF.out];rfl
  have v5:V.cell? ⟨d,5,none⟩=some (.int .i64 n):=by rw[Lib.cell_of_heap HF.out];rfl
  have v6:V.cell? ⟨d,6,none⟩=some (.int .i64 body):=by rw[Lib.cell_of_heap HF.out];rfl
  have v7:V.cell? ⟨d,7,none⟩=some (.int .i64 els):=by rw[Lib.cell_of_heap HF.out];rfl
  have v8:V.cell? ⟨d,8,none⟩=some (.int .i64 0):=by rw[Lib.cell_of_heap HF.out];rfl
  clear z0 z1 z2 z3 z4 z5 z6 z7 z8 f8 y0 y1 y2 y3 y4 y5 y6 y7 y8 k0 k1 k2 k3 k4 k5 k6 k7 k8;refine bodyPost_ret (v:=.agg #[.int .i64 k,.string ⟨reg.toArray⟩,.string ⟨name.toArray⟩,.slice A1 e.length c1,.slice A2 f.length c2,.int .i64 n,.int .i64 body,.int .i64 els,.int .i64 0]) (by simp[results,Tryz.results97,go_sem,v0,v1,v2,v3,v4,v5,v6,v7,v8]) rfl ?_;have hlow:w.heap.size≤b∧w.heap.size≤d:=HLOW.out;refine⟨.slice A1 e.length c1,.slice A2 f.length c2,rfl,?_,?_,?_⟩
  ·exact CL.base (AW HO1Z.out HKF.out (fun q hq h=>by have:=(AM HO1Z.out q hq).1;have:=HYB.out;omega)) HB.out.size
  ·exact CL.base (AW HO2Z.out HKF.out (fun q hq h=>by have:=(AM HO2Z.out q hq).1;have:=HYB.out;omega)) HB.out.size
  ·exact HBZ.out.trans (HKF.out.below (fun k hk h=>by omega) HBZ.out.size)
end Go.Proofs.YthfkpalfopdmhaaGreatDoor
