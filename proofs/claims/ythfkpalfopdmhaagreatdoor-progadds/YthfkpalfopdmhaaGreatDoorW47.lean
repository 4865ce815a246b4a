/- Texts of the walk, packed. -/
import Derived.Test.YthfkpalfopdmhaaGreatDoorW41
import Derived.Test.YthfkpalfopdmhaaGreatDoorW43
import Derived.Test.YthfkpalfopdmhaaGreatDoorW40
import Derived.Deep.RegionHeld3
import Derived.Test.YthfkpalfopdmhaaGreatDoorW29
import Derived.Test.YthfkpalfopdmhaaGreatDoorW38
import Derived.Test.YthfkpalfopdmhaaGreatDoorW00
namespace Go.Proofs.YthfkpalfopdmhaaGreatDoor
open Go.RowKit
structure JC (w:World) (v:Pv) (D:Nat) (l:List UInt8) (W:World):Prop where
 box:Jr W w.heap.size v
 bld:Lib.IsBuilder 93 5 D D (Lib.byteCells l) W
 low:Below w.heap.size w W
theorem JC.size {w:World} {v:Pv} {D:Nat} {l:List UInt8} {W:World} (h:JC w v D l W):D<=W.heap.size:=by
 obtain⟨c,hb⟩:=IZ h.bld;exact Nat.le_of_lt (Array.getElem?_eq_some_iff.1 hb).1
theorem JC.call {w:World} {v:Pv} {D:Nat} {l:List UInt8} {W W':World} (h:JC w v D l W) (hb:Below W.heap.size W W'):JC w v D l W':=
 ⟨h.box.on hb,ML h.bld hb,AC h.low hb⟩
theorem JC.write {w:World} {v:Pv} {D n:Nat} {l l':List UInt8} {W W':World} {e:Ending} (h:JC w v D l W) (hD:w.heap.size<D) (hw:T8 D D n l' W e W'):JC w v D l' W':=by
 obtain⟨_,h1,h2,h3⟩:=hw;exact⟨h3 _ _ h.box (fun e=>by cases e;omega) (fun c fz e=>by cases e),h1,h.low.trans (h2.mono (by omega))⟩
theorem Mc {l:List Cel} {m:Int} (hm:m<=4294967296) (h:l.all (A9 m)=true):∀c∈l,0<=c.n/\c.n<=4294967296/\c.name.length<=100000:=fun c hc=>by
 have:=List.all_eq_true.1 h c hc;unfold A9 at this;simp only[Bool.and_eq_true,decide_eq_true_eq]at this;have hn:=EH this.1.1.1;exact⟨this.1.1.2,by omega,by omega⟩
theorem Xx (wd:List UInt8) (l:List Cel):F8 wd (l.map ET)=Nc wd l:=by
 unfold F8 Nc rowT;rw[Si];cases l<;>rfl
theorem PX (wd:List UInt8) (ts:List (List UInt8)):(FX ts).length<=(F8 wd ts).length:=by
 unfold F8;cases ts with
 |nil=>simp[FX,Lib.join]
 |cons a l=>simp only[List.isEmpty_cons,Bool.false_eq_true,if_false,List.length_append,List.length_cons];omega
theorem QE8 (w:World) (s:List UInt8):CS (w.alloc (.cells #[.string ⟨s.toArray⟩] 9)) 0 (.slice (some ⟨w.heap.size,0,none⟩) 1 1) [s]:=
 ⟨rfl,.inr ⟨w.heap.size,1,#[.string ⟨s.toArray⟩],rfl,Nat.zero_le _,heap_alloc_new w _,Nat.le_refl _,by decide,rfl,rfl⟩⟩
theorem Yl {w w':World} {B:Nat} {v:Value} {M:List Stm} (h:Ec w B v M) (hb:Below w.heap.size w w'):Ec w' B v M:=h.keepT (AG.of hb) Av.none
theorem S9 {t:Thr} {b:Bool} (h:Bv b t=true) (hn:t.regs.length<=10000):(FX t.regs).length<=1000000:=by
 unfold Bv at h;simp only[Bool.and_eq_true]at h;have key:∀l:List (List UInt8),l.all nameB=true->(FX l).length<=18*l.length:=by
  intro l
  induction l with
  |nil=>intro _;simp[FX,Lib.join]
  |cons a l ih=>
   intro hl;rw[List.all_cons,Bool.and_eq_true]at hl;have h1:=EH hl.1;cases l with
   |nil=>rw[Lp];simp;omega
   |cons b l=>
    have h2:=ih hl.2;rw[MU];simp only[List.length_append,List.length_cons,List.length_nil]at h2⊢;omega
 have:=key _ h.2;omega
theorem Nv {α:Type} {K:List α} {k:Nat} {a:α} (h:K[k]?=some a):K.drop k=a::K.drop (k+1):=by
 obtain⟨hlt,rfl⟩:=List.getElem?_eq_some_iff.1 h;exact List.drop_eq_getElem_cons hlt
set_option maxRecDepth 100000 in
set_option maxHeartbeats 16000000 in
theorem QFk {w:World} {B:Nat} {v:Pv} {P:Prg} (h:B9 w B v P) (hs:GU P) (ht:Tabs w) (hl:(BQ P).length<=900000000):Calls Tryz.prog 18 #[Hl v] w (Br (JJ P) w):=by
 obtain⟨A1,n1,m1,A2,n2,m2,A3,n3,m3,A4,n4,m4,A5,n5,m5,A6,n6,m6,rfl⟩:=h.forms;have HP:=AA h;have HS:=AA hs;have HT:=AA ht;obtain⟨q,hq⟩:∃q,BH P=q:=⟨_,rfl⟩
 have HQ:=AA hq;have HR:=AA (fun w' (hb:Below w.heap.size w w')=>RJ (HP.out.on hb) HS.out (HT.out.on hb));rw[hq]at HR;have HB0:Hid (Below w.heap.size w (w.alloc (.cells #[.slice A1 n1 m1,.slice A2 n2 m2,.slice A3 n3 m3,.slice A4 n4 m4,.slice A5 n5 m5,.slice A6 n6 m6] 27))):=AA ((Below.refl _ _).alloc (Nat.le_refl _) _);have HX:=AA (Js w (.slice A1 n1 m1) (.slice A2 n2 m2) (.slice A3 n3 m3) (.slice A4 n4 m4) (.slice A5 n5 m5) (.slice A6 n6 m6));have HRC:=AA (HR.out _ HB0.out);clear h hs ht hq HR;unfold Hl at HRC⊢;go_enter Tryz.func18,Tryz.ntmps18;go_wp2_with fail
 refine HRC.out.mono ?_;rintro e w1 ⟨rfl,hb⟩;replace HX:=AA (HX.out.on hb);replace HB0:=AA (AC HB0.out hb);clear hb HRC;cases q with
 |false=>
  go_wp2_with fail
  go_ret;exact BZ rfl (by unfold JJ;rw[HQ.out];rfl) HB0.out
 |true=>
  have HE:Hid (JJ P=BQ P):=AA (SZ HQ.out);have hqq:=HQ.out;unfold BH at hqq;simp only[Bool.and_eq_true,decide_eq_true_eq]at hqq;obtain⟨⟨⟨⟨⟨⟨q1,q2⟩,q3⟩,q4⟩,q5⟩,q6⟩,q7⟩:=hqq;have HQ1:=AA q1;have HQ2:=AA q2;have HQ3:=AA q3;have HQ4:=AA q4;have HQ5:=AA q5;have HQ6:=AA q6;clear q1 q2 q3 q4 q5 q6 q7;obtain⟨K1,hK1,hm1⟩:=HP.out.lines;obtain⟨K4,hK4,hm4⟩:=HP.out.threads;obtain⟨K5,hK5,hm5⟩:=HP.out.recs;obtain⟨K6,hK6,hm6⟩:=HP.out.claims;have e1:n1=K1.length:=by obtain⟨A,c,hv,_⟩:=hK1.reads;simp only[Value.slice.injEq]at hv;exact hv.2.1
  have e4:n4=K4.length:=by obtain⟨A,c,hv,_⟩:=hK4.reads;simp only[Value.slice.injEq]at hv;exact hv.2.1
  have e5:n5=K5.length:=by obtain⟨A,c,hv,_⟩:=hK5.reads;simp only[Value.slice.injEq]at hv;exact hv.2.1
  have e6:n6=K6.length:=by obtain⟨A,c,hv,_⟩:=hK6.reads;simp only[Value.slice.injEq]at hv;exact hv.2.1
  subst e1 e4 e5 e6;have HK1:=AA hK1;have HK4:=AA hK4;have HK5:=AA hK5;have HK6:=AA hK6;have h1l:K1.length<=10000:=by have:=HS.out.nl;rw[<-hm1,List.length_map]at this;exact this
  have h4l:K4.length<=10000:=by have:=HS.out.nt;rw[<-hm4,List.length_map]at this;exact this
  have h5l:K5.length<=10000:=by have:=HS.out.nr;rw[<-hm5,List.length_map]at this;exact this
  have h6l:K6.length<=10000:=by have:=HS.out.nc;rw[<-hm6,List.length_map]at this;exact this
  obtain⟨T6,hT6⟩:∃T,K6.flatMap (fun x=>KJ x.c)=T:=⟨_,rfl⟩
  obtain⟨T5,hT5⟩:∃T,K5.flatMap (fun x=>B8 Az x.t)++T6=T:=⟨_,rfl⟩
  obtain⟨T4,hT4⟩:∃T,K4.flatMap (fun x=>IG x.t)++T5=T:=⟨_,rfl⟩
  obtain⟨T3,hT3⟩:∃T,F8 Cf (P.locks.map ET)++T4=T:=⟨_,rfl⟩
  obtain⟨T2,hT2⟩:∃T,F8 F7 (P.vols.map ET)++T3=T:=⟨_,rfl⟩
  obtain⟨T,hTT⟩:∃T,K1.flatMap (fun x=>rowT DG x.l)++T2=T:=⟨_,rfl⟩
  have HTX:Hid (BQ P=T):=AA (by
   unfold BQ;rw[<-hm1,<-hm4,<-hm5,<-hm6,List.flatMap_map,List.flatMap_map,List.flatMap_map,List.flatMap_map,<-Xx,<-Xx,<-hTT,<-hT2,<-hT3,<-hT4,<-hT5,<-hT6])
  have HTT:Hid (T.length<=900000000):=AA (by rw[<-HTX.out];exact hl);have HH1:Hid (∀x∈K1,x.l.length<=10000/\x.l≠[]/\x.l.all (A9 BW)=true):=AA (fun x hx=>by
   have hx':x.l∈P.lines:=by rw[<-hm1];exact List.mem_map_of_mem hx
   have:=List.all_eq_true.1 HQ1.out _ hx';unfold EJ at this;simp only[Bool.and_eq_true,Bool.not_eq_true',List.isEmpty_eq_false_iff]at this;exact⟨(HS.out.lines _ hx').1,this.1,this.2⟩)
  have HH4:Hid (∀x∈K4,Bv true x.t=true/\DX x.t):=AA (fun x hx=>by
   have hx':x.t∈P.threads:=by rw[<-hm4];exact List.mem_map_of_mem hx
   exact⟨List.all_eq_true.1 HQ5.out _ hx',HS.out.threads _ hx'⟩)
  have HH5:Hid (∀x∈K5,Bv false x.t=true/\DX x.t):=AA (fun x hx=>by
   have hx':x.t∈P.recs:=by rw[<-hm5];exact List.mem_map_of_mem hx
   exact⟨List.all_eq_true.1 HQ6.out _ hx',HS.out.recs _ hx'⟩)
  have HH6:Hid (∀x∈K6,Eo x.c=true/\Jq x.c):=AA (fun x hx=>by
   have hx':x.c∈P.claims:=by rw[<-hm6];exact List.mem_map_of_mem hx
   exact⟨List.all_eq_true.1 HQ2.out _ hx',HS.out.claims _ hx'⟩)
  have hDD:w.heap.size<w1.heap.size:=(Array.getElem?_eq_some_iff.1 HX.out).1;have HB1:=(Below.refl w1.heap.size w1).alloc (Nat.le_refl _) (.cells #[.pointer none,.slice none 0 0] 93);have HI0:Hid (JC w ⟨.slice A1 K1.length m1,.slice A2 n2 m2,.slice A3 n3 m3,.slice A4 K4.length m4,.slice A5 K5.length m5,.slice A6 K6.length m6⟩ w1.heap.size [] (w1.alloc (.cells #[.pointer none,.slice none 0 0] 93))):=AA ⟨HX.out.on HB1,Lib.fresh_isBuilder 93 5 w1,AC HB0.out HB1⟩;have HTU1:=AA hTT;have HTU2:=AA hT2;have HTU3:=AA hT3;have HTU4:=AA hT4;have HTU5:=AA hT5;have HTU6:=AA hT6
  clear hK1 hK4 hK5 hK6 hm1 hm4 hm5 hm6 hT2 hT3 hT4 hT5 hT6 hTT hl HX HB0 HB1;obtain⟨-,z0, -, -, -, -, -, -, -, -, -, -, -⟩:=AX HI0.out.box;go_upto_region 4 with(fail)
  generalize w1.alloc (.cells #[.pointer none,.slice none 0 0] 93)=W0 at *;generalize w1.heap.size=D at *;clear z0;obtain⟨-,z0, -, -, -, -, -, -, -, -, -, -, -⟩:=AX HI0.out.box;go_wp2_with fail
  clear z0;go_loopw [18] (fun i wr=>∃(k:Nat) (l:List UInt8),k<=K1.length/\i=.int .i64 k/\JC w ⟨.slice A1 K1.length m1,.slice A2 n2 m2,.slice A3 n3 m3,.slice A4 K4.length m4,.slice A5 K5.length m5,.slice A6 K6.length m6⟩ D l wr/\l++((K1.drop k).flatMap (fun x=>rowT DG x.l)++T2)=T) (fun i _=>K1.length-(intOf i).toNat)
  case atStart=>exact⟨0,[],Nat.zero_le _,rfl,HI0.out,HTU1.out⟩
  case round=>
   obtain⟨k,l,hk,rfl,hi,htl⟩:=hrel;have HI:=AA hi;by_cases hlt:k<K1.length
   ·have ha:K1[k]?=some K1[k]:=List.getElem?_eq_getElem hlt;obtain⟨g1,g2,g3⟩:=HH1.out K1[k] (List.getElem_mem hlt);have hsub:=(HK1.out.on hi.low).sub K1[k] (List.getElem_mem hlt);rw[Nv ha,List.flatMap_cons]at htl;generalize K1[k]=a at *;have hu:F8 DG (a.l.map ET)=rowT DG a.l:=by rw[Xx];unfold Nc;rw[if_neg (by simpa using g2)]
    rw[<-hu,List.append_assoc]at htl;have HTL:=AA htl;obtain⟨A',c',hv,_,_,hr⟩:=(HK1.out.on hi.low).reads;obtain⟨rfl,_,rfl⟩:A1=A'/\True/\m1=c':=by simpa using hv
    obtain⟨g,rfl, -,hg,x0⟩:=hr k a ha;have HSB:=AA hsub;obtain⟨Aa,ca,hva, -⟩:=hsub.reads;rw[hva]at x0 HSB;have hlt':=hlt;clear ha hr hv hi htl hsub hva hu;have HCT:=AA (MW (HSB.out) (HT.out.on HI.out.low) g1 (Mc (m:=BW) (by decide) g3));have hlw:l.length+(F8 DG (a.l.map ET)).length<=900000000:=by
     have:=congrArg List.length HTL.out;simp only[List.length_append]at this;have:=HTT.out;omega
    have HLW:=AA hlw;clear hlw;go_wp2_with fail
    refine HCT.out.mono ?_;rintro e2 w2 ⟨u,rfl,hu,hb2⟩;have HI2:=AA (HI.out.call hb2);have HRT:=AA (LM DG hu (Nat.le_trans (PX DG _) (by have:=HLW.out;omega)) (by rw[List.length_map];exact Nat.le_trans (g1) (by decide)) (by decide));obtain⟨Au,cu,rfl, -, -, -⟩:=hu.reads;rw[List.length_map]at HRT⊢;clear hu hb2 HCT;go_wp2_with fail
    refine HRT.out.mono ?_;rintro e3 w3 ⟨rfl,hb3⟩;have HI3:=AA (HI2.out.call hb3);have HW:=AA (ES D D l (F8 DG (a.l.map ET)) w3 HI3.out.bld (by have:=HLW.out;omega) HI3.out.size);clear hb3 HRT;go_wp2_with fail
    refine HW.out.mono ?_;rintro e4 w4 hw;have HI4:=AA (HI3.out.write hDD hw);obtain⟨rfl, -⟩:=hw;clear HW HI2 HI3 HLW;go_wp2_with fail
    go_roundw;case rel=>exact⟨k+1,_,by omega,by go_num,HI4.out,by rw[List.append_assoc];exact HTL.out⟩
    case measure=>simp[intOf];omega
   ·have hkk:K1.drop k=[]:=List.drop_of_length_le (by omega);rw[hkk]at htl;have HTL:Hid (l++T2=T):=AA (by simpa using htl);obtain⟨-,z0,z1,z2,z3,z4,z5, -, -, -, -, -, -⟩:=AX HI.out.box;clear hkk htl hi;rw[<-HTU2.out]at HTL;have HCT:=AA (MW ((HP.out.on HI.out.low).vols) (HT.out.on HI.out.low) HS.out.nv (Mc (m:=BW) (by decide) HQ3.out));have hlw:l.length+(F8 F7 (P.vols.map ET)).length<=900000000:=by
     have:=congrArg List.length HTL.out;simp only[List.length_append]at this;have:=HTT.out;omega
    have HLW:=AA hlw;clear hlw;go_wp2_with fail
    refine HCT.out.mono ?_;rintro e2v w2v ⟨u,rfl,hu,hb2⟩;have HI2:=AA (HI.out.call hb2);have HRT:=AA (LM F7 hu (Nat.le_trans (PX F7 _) (by have:=HLW.out;omega)) (by rw[List.length_map];exact Nat.le_trans (HS.out.nv) (by decide)) (by decide));obtain⟨Au,cu,rfl, -, -, -⟩:=hu.reads;rw[List.length_map]at HRT⊢;clear hu hb2 HCT;go_wp2_with fail
    refine HRT.out.mono ?_;rintro e3v w3v ⟨rfl,hb3⟩;have HI3:=AA (HI2.out.call hb3);have HW:=AA (ES D D l (F8 F7 (P.vols.map ET)) w3v HI3.out.bld (by have:=HLW.out;omega) HI3.out.size);clear hb3 HRT;go_wp2_with fail
    refine HW.out.mono ?_;rintro e4v w4v hw;have HI4v:=AA (HI3.out.write hDD hw);obtain⟨rfl, -⟩:=hw;clear HW HI2 HI3 HLW;have HTLv:=AA (show(l++F8 F7 (P.vols.map ET))++T3=T by rw[List.append_assoc];exact HTL.out);generalize l++F8 F7 (P.vols.map ET)=lv at *;clear HTL HI z0 z1 z2 z3 z4 z5;obtain⟨-,z0,z1,z2,z3,z4,z5, -, -, -, -, -, -⟩:=AX HI4v.out.box;rw[<-HTU3.out]at HTLv;have HCT:=AA (MW ((HP.out.on HI4v.out.low).locks) (HT.out.on HI4v.out.low) HS.out.nk (Mc (m:=0) (by decide) HQ4.out));have hlw:lv.length+(F8 Cf (P.locks.map ET)).length<=900000000:=by
     have:=congrArg List.length HTLv.out;simp only[List.length_append]at this;have:=HTT.out;omega
    have HLW:=AA hlw;clear hlw;go_wp2_with fail
    refine HCT.out.mono ?_;rintro e2k w2k ⟨u,rfl,hu,hb2⟩;have HI2:=AA (HI4v.out.call hb2);have HRT:=AA (LM Cf hu (Nat.le_trans (PX Cf _) (by have:=HLW.out;omega)) (by rw[List.length_map];exact Nat.le_trans (HS.out.nk) (by decide)) (by decide));obtain⟨Au,cu,rfl, -, -, -⟩:=hu.reads;rw[List.length_map]at HRT⊢;clear hu hb2 HCT;go_wp2_with fail
    refine HRT.out.mono ?_;rintro e3k w3k ⟨rfl,hb3⟩;have HI3:=AA (HI2.out.call hb3);have HW:=AA (ES D D lv (F8 Cf (P.locks.map ET)) w3k HI3.out.bld (by have:=HLW.out;omega) HI3.out.size);clear hb3 HRT;go_wp2_with fail
    refine HW.out.mono ?_;rintro e4k w4k hw;have HI4k:=AA (HI3.out.write hDD hw);obtain⟨rfl, -⟩:=hw;clear HW HI2 HI3 HLW;have HTLk:=AA (show(lv++F8 Cf (P.locks.map ET))++T4=T by rw[List.append_assoc];exact HTLv.out);generalize lv++F8 Cf (P.locks.map ET)=lk at *;clear HTLv HI4v z0 z1 z2 z3 z4 z5;obtain⟨-,z0,z1,z2,z3,z4,z5, -, -, -, -, -, -⟩:=AX HI4k.out.box;go_wp2_with fail
    clear z0 z1 z2 z3 z4 z5;go_loopw [40] (fun i wr=>∃(k:Nat) (l:List UInt8),k<=K4.length/\i=.int .i64 k/\JC w ⟨.slice A1 K1.length m1,.slice A2 n2 m2,.slice A3 n3 m3,.slice A4 K4.length m4,.slice A5 K5.length m5,.slice A6 K6.length m6⟩ D l wr/\l++((K4.drop k).flatMap (fun x=>IG x.t)++T5)=T) (fun i _=>K4.length-(intOf i).toNat)
    case atStart=>exact⟨0,lk,Nat.zero_le _,rfl,HI4k.out,by rw[List.drop_zero,HTU4.out];exact HTLk.out⟩
    case round=>
     clear HTLk HI4k HI0;obtain⟨k,l,hk,rfl,hi,htl⟩:=hrel;have HI:=AA hi;by_cases hlt:k<K4.length
     ·have ha:K4[k]?=some K4[k]:=List.getElem?_eq_getElem hlt;obtain⟨g1,g2⟩:=HH4.out K4[k] (List.getElem_mem hlt);have hsub:=(HK4.out.on hi.low).sub K4[k] (List.getElem_mem hlt);rw[Nv ha,List.flatMap_cons,List.append_assoc]at htl;generalize K4[k]=a at *;have HTL:=AA htl;obtain⟨A',c',hv,_,_,hr⟩:=(HK4.out.on hi.low).reads;obtain⟨rfl,_,rfl⟩:A4=A'/\True/\m4=c':=by simpa using hv
      obtain⟨g,rfl, -,hg,x0,x1,x2,x3⟩:=hr k a ha;have HBT:=AA (fun W' (hb:Below wr.heap.size wr W')=>Qy (hsub.1.on hb) (Yl hsub.2 hb) g1 (HT.out.on (AC hi.low hb)) (Nat.le_trans g2.2.2.1 (by decide)) (S9 g1 g2.2.2.1));obtain⟨AR,cR,hvR, -⟩:=hsub.1.reads;obtain⟨AB,cB,hvB⟩:=hsub.2.slice;rw[hvR]at x1 HBT;rw[hvB]at x2 HBT;have HLT:Hid (BX++[32]++a.t.name++B8 [] a.t=IG a.t):=AA (by unfold IG B8;simp);have hlt':=hlt;have hlb:l.length+(IG a.t).length<=900000000:=by
       have:=congrArg List.length HTL.out;simp only[List.length_append]at this;have:=HTT.out;omega
      have hbl:(B8 [] a.t).length<=900000000/\a.t.name.length<=900000000:=by
       have:=congrArg List.length HLT.out;simp only[List.length_append]at this;omega
      have hcat1:¬(9223372036854775807<7+a.t.name.length):=by omega
      have hcat2:¬(9223372036854775807<7+a.t.name.length+(B8 [] a.t).length):=by omega
      generalize a.t.regs.length=nR at *;generalize a.t.body.length=nB at *;generalize a.t.name=nm at *;generalize B8 [] a.t=bt at *;generalize IG a.t=tt at *;have HA:=AA ((Below.refl wr.heap.size wr).alloc (Nat.le_refl _) (.cells #[.string ⟨nm.toArray⟩,.slice AR nR cR,.slice AB nB cB,.int .i64 a.t.pl] 41));have NA:=AA (heap_alloc_new wr (.cells #[.string ⟨nm.toArray⟩,.slice AR nR cR,.slice AB nB cB,.int .i64 a.t.pl] 41));have HLB:=AA hlb;clear ha hr hv hi htl hsub hvR hvB g1 g2 hbl hlb;go_upto_region 14 with(fail)
      generalize wr.alloc (.cells #[.string ⟨nm.toArray⟩,.slice AR nR cR,.slice AB nB cB,.int .i64 a.t.pl] 41)=Y at *;have HIY:=AA (HI.out.call HA.out);have y0:Y.cell? ⟨wr.heap.size,0,none⟩=some (.string ⟨nm.toArray⟩):=by rw[Lib.cell_of_heap NA.out];rfl
      have y1:Y.cell? ⟨wr.heap.size,1,none⟩=some (.slice AR nR cR):=by rw[Lib.cell_of_heap NA.out];rfl
      have y2:Y.cell? ⟨wr.heap.size,2,none⟩=some (.slice AB nB cB):=by rw[Lib.cell_of_heap NA.out];rfl
      have y3:Y.cell? ⟨wr.heap.size,3,none⟩=some (.int .i64 a.t.pl):=by rw[Lib.cell_of_heap NA.out];rfl
      have hltY:=(Array.getElem?_eq_some_iff.1 NA.out).1;have HBY:=AA (fun W' (hb:Below Y.heap.size Y W')=>HBT.out W' (AC HA.out hb));clear HBT HA HI x0 x1 x2 x3
      go_region_with (first
       |(go_at_call 59;refine(HBY.out _ (by first|exact Below.refl _ _|exact AD _)).mono ?_;rintro e2 w2 ⟨rfl,hb2⟩;have v0:w2.cell? ⟨wr.heap.size,0,none⟩=some (.string ⟨nm.toArray⟩):=(by rw[Lib.cell_of_heap ((hb2.block _ hltY).trans NA.out)];rfl))
       |(go_at_call 56;refine(Jd D D l tt (by rw[<-HLT.out,<-CO,<-CO];rfl) (by first|exact(HIY.out.call hb2).bld|exact(HIY.out.call (AC (AD _) hb2)).bld|exact(HIY.out.call (AC hb2 (AD _))).bld|exact(HIY.out.call (AC (AC (AD _) hb2) (AD _))).bld) (by have:=HLB.out;omega) (by first|exact(HIY.out.call hb2).size|exact(HIY.out.call (AC (AD _) hb2)).size|exact(HIY.out.call (AC hb2 (AD _))).size|exact(HIY.out.call (AC (AC (AD _) hb2) (AD _))).size)).mono ?_;rintro e4 w4 ⟨rfl,hw1,hw2,hw3⟩))
      all_goals
       have HI4:=AA (JC.write (e:=.returned (.tuple #[.int .i64 tt.length,.nilIface])) (n:=tt.length) (by first|exact HIY.out.call hb2|exact HIY.out.call (AC (AD _) hb2)|exact HIY.out.call (AC hb2 (AD _))|exact HIY.out.call (AC (AC (AD _) hb2) (AD _))) hDD ⟨rfl,hw1,hw2,hw3⟩);clear hw1 hw2 hw3 hb2 v0 y0 y1 y2 y3 HIY HBY;go_wp2_with fail
       go_roundw;case rel=>exact⟨k+1,_,by omega,by go_num,by first|exact HI4.out|exact HI4.out.call (AD _),by rw[List.append_assoc];exact HTL.out⟩
       case measure=>simp[intOf];omega
     ·have hkk:K4.drop k=[]:=List.drop_of_length_le (by omega);rw[hkk]at htl;have HTL:Hid (l++T5=T):=AA (by simpa using htl);obtain⟨-,z0,z1,z2,z3,z4,z5, -, -, -, -, -, -⟩:=AX HI.out.box;clear hkk htl hi;go_wp2_with fail
      clear z0 z1 z2 z3 z4 z5;go_loopw [55] (fun i wr=>∃(k:Nat) (l:List UInt8),k<=K5.length/\i=.int .i64 k/\JC w ⟨.slice A1 K1.length m1,.slice A2 n2 m2,.slice A3 n3 m3,.slice A4 K4.length m4,.slice A5 K5.length m5,.slice A6 K6.length m6⟩ D l wr/\l++((K5.drop k).flatMap (fun x=>B8 Az x.t)++T6)=T) (fun i _=>K5.length-(intOf i).toNat)
      case atStart=>exact⟨0,l,Nat.zero_le _,rfl,HI.out,by rw[List.drop_zero,HTU5.out];exact HTL.out⟩
      case round=>
       clear HTL HI;obtain⟨k,l,hk,rfl,hi,htl⟩:=hrel;have HI:=AA hi;by_cases hlt:k<K5.length
       ·have ha:K5[k]?=some K5[k]:=List.getElem?_eq_getElem hlt;obtain⟨g1,g2⟩:=HH5.out K5[k] (List.getElem_mem hlt);have hsub:=(HK5.out.on hi.low).sub K5[k] (List.getElem_mem hlt);rw[Nv ha,List.flatMap_cons,List.append_assoc]at htl;generalize K5[k]=a at *;have HTL:=AA htl;obtain⟨A',c',hv,_,_,hr⟩:=(HK5.out.on hi.low).reads;obtain⟨rfl,_,rfl⟩:A5=A'/\True/\m5=c':=by simpa using hv
        obtain⟨g,rfl, -,hg,x0,x1,x2,x3⟩:=hr k a ha;obtain⟨AR,cR,hvR, -⟩:=hsub.1.reads;obtain⟨AB,cB,hvB⟩:=hsub.2.slice;have hA:=(Below.refl wr.heap.size wr).alloc (Nat.le_refl _) (.cells #[.string ⟨a.t.name.toArray⟩,a.vR,a.vB,.int .i64 a.t.pl] 41);have HBT:=AA (Qy (hsub.1.on hA) (Yl hsub.2 hA) g1 (HT.out.on (AC hi.low hA)) (Nat.le_trans g2.2.2.1 (by decide)) (S9 g1 g2.2.2.1));have HIY:=AA (hi.call hA);rw[hvR]at x1 HBT HIY;rw[hvB]at x2 HBT HIY;have HLT:Hid (Az++B8 [] a.t=B8 Az a.t):=AA (by unfold B8;simp);have hlt':=hlt;have hlb:l.length+(B8 Az a.t).length<=900000000:=by
         have:=congrArg List.length HTL.out;simp only[List.length_append]at this;have:=HTT.out;omega
        have hbl:(B8 [] a.t).length<=900000000:=by
         have:=congrArg List.length HLT.out;simp only[List.length_append]at this;omega
        have hcat1:¬(9223372036854775807<7+(B8 [] a.t).length):=by omega
        generalize B8 Az a.t=tt at *;generalize a.t.regs.length=nR at *;generalize a.t.body.length=nB at *;generalize a.t.name=nm at *;generalize B8 [] a.t=bt at *;have HLB:=AA hlb;clear ha hr hv hi htl hsub hvR hvB g1 g2 hbl hlb hA;go_wp2_with fail
        refine HBT.out.mono ?_;rintro e2 w2 ⟨rfl,hb2⟩;have HI2:=AA (HIY.out.call hb2);clear hb2 HIY HBT;go_wp2_with fail
        refine(Jd D D l tt (by rw[<-HLT.out,<-CO];rfl) HI2.out.bld (by have:=HLB.out;omega) HI2.out.size).mono ?_;rintro e4 w4 hw;have HI4:=AA (HI2.out.write hDD hw);obtain⟨rfl, -⟩:=hw;clear HI2;go_wp2_with fail
        go_roundw;case rel=>exact⟨k+1,_,by omega,by go_num,HI4.out,by rw[List.append_assoc];exact HTL.out⟩
        case measure=>simp[intOf];omega
       ·have hkk:K5.drop k=[]:=List.drop_of_length_le (by omega);rw[hkk]at htl;have HTL:Hid (l++T6=T):=AA (by simpa using htl);obtain⟨-,z0,z1,z2,z3,z4,z5, -, -, -, -, -, -⟩:=AX HI.out.box;clear hkk htl hi;go_wp2_with fail
        clear z0 z1 z2 z3 z4 z5;go_loopw [67] (fun i wr=>∃(k:Nat) (l:List UInt8),k<=K6.length/\i=.int .i64 k/\JC w ⟨.slice A1 K1.length m1,.slice A2 n2 m2,.slice A3 n3 m3,.slice A4 K4.length m4,.slice A5 K5.length m5,.slice A6 K6.length m6⟩ D l wr/\l++((K6.drop k).flatMap (fun x=>KJ x.c))=T) (fun i _=>K6.length-(intOf i).toNat)
        case atStart=>exact⟨0,l,Nat.zero_le _,rfl,HI.out,by rw[List.drop_zero,HTU6.out];exact HTL.out⟩
        case round=>
         clear HTL HI;obtain⟨k,l,hk,rfl,hi,htl⟩:=hrel;have HI:=AA hi;by_cases hlt:k<K6.length
         ·have ha:K6[k]?=some K6[k]:=List.getElem?_eq_getElem hlt;obtain⟨g1,g2⟩:=HH6.out K6[k] (List.getElem_mem hlt);have hsub:=(HK6.out.on hi.low).sub K6[k] (List.getElem_mem hlt);rw[Nv ha,List.flatMap_cons]at htl;generalize K6[k]=a at *;have hu:F8 Ak [CL a.c.e]=KJ a.c:=by unfold F8 KJ;rw[Lp];rfl
          rw[<-hu]at htl;have HTL:=AA htl;obtain⟨A',c',hv,_,_,hr⟩:=(HK6.out.on hi.low).reads;obtain⟨rfl,_,rfl⟩:A6=A'/\True/\m6=c':=by simpa using hv
          obtain⟨g,rfl, -,hg,x0,x1⟩:=hr k a ha;have hA:=(Below.refl wr.heap.size wr).alloc (Nat.le_refl _) (.cells #[a.vE,.int .i64 a.c.pl] 50);have HSH:=AA (QB a.vE a.c.e _ (hsub.rd.on hA) g2.2 g2.1 (HT.out.on (AC hi.low hA)));have HIY:=AA (hi.call hA);obtain⟨AE,cE,hvE, -, -, -⟩:=hsub.rd;rw[hvE]at x0 HSH HIY;have hlw:l.length+(F8 Ak [CL a.c.e]).length<=900000000:=by
           have:=congrArg List.length HTL.out;simp only[List.length_append]at this;have:=HTT.out;omega
          have HJL:Hid ((FX [CL a.c.e]).length<=1000000000):=AA (Nat.le_trans (PX Ak _) (by omega));have HLW:=AA hlw;have hlt':=hlt;generalize a.c.e.length=nE at *;generalize CL a.c.e=sh at *;clear ha hr hv hi htl hsub g1 g2 hlw hA hvE hu;go_wp2_with fail
          refine HSH.out.mono ?_;rintro e2 w2 ⟨rfl,hb2⟩;have hA2:=(Below.refl w2.heap.size w2).alloc (Nat.le_refl _) (.cells #[.string ⟨sh.toArray⟩] 9);have HI2:=AA ((HIY.out.call hb2).call hA2);have HRT:=AA (LM Ak (ts:=[sh]) (B:=0) (QE8 w2 sh) HJL.out (by simp) (by decide));clear hb2 HIY HSH hA2;go_wp2_with fail
          refine HRT.out.mono ?_;rintro e3 w3 ⟨rfl,hb3⟩;have HI3:=AA (HI2.out.call hb3);have HW:=AA (ES D D l (F8 Ak [sh]) w3 HI3.out.bld (by have:=HLW.out;omega) HI3.out.size);clear hb3 HRT HI2;go_wp2_with fail
          refine HW.out.mono ?_;rintro e4 w4 hw;have HI4:=AA (HI3.out.write hDD hw);obtain⟨rfl, -⟩:=hw;clear HI3 HW;go_wp2_with fail
          go_roundw;case rel=>exact⟨k+1,_,by omega,by go_num,HI4.out,by rw[List.append_assoc];exact HTL.out⟩
          case measure=>simp[intOf];omega
         ·have hkk:K6.drop k=[]:=List.drop_of_length_le (by omega);rw[hkk]at htl;have HTL:Hid (T=l):=AA (by rw[<-htl];simp);clear hkk htl hi;go_wp2_with fail
          refine(Tryz.Builder_String_any D D l _ HI.out.bld HI.out.size).mono ?_;rintro e9 w9 ⟨rfl,hb9⟩;have HB9:=AA (HI.out.low.trans (hb9.mono (by omega)));clear hb9;go_wp2_with fail
          go_ret;exact BZ rfl (by rw[HE.out,HTX.out,HTL.out]) HB9.out
structure Ju (p:Prg):Prop where
 nl:p.lines.length<=10000
 lines:∀l∈p.lines,l.length<=10000
 nv:p.vols.length<=10000
 nk:p.locks.length<=10000
 nt:p.threads.length<=10000
 threads:∀t∈p.threads,Gw t
 nr:p.recs.length<=10000
 recs:∀t∈p.recs,Gw t
 nc:p.claims.length<=10000
 claims:∀c∈p.claims,c.e.length<=10000
theorem Nw {w:World} {B T m n:Nat} {v:Value} {xs:List Value} (h:w.ownsRow B T m v n xs):∃A n c,v=.slice A n c:=by
 obtain⟨A,c,hv,_⟩:=AS h;exact⟨A,_,c,hv⟩
theorem Iq.form {w:World} {B:Nat} {v:Value} {l:List (List Cel)} (h:Iq w B v l):∃A n c,v=.slice A n c:=by obtain⟨K,hK,_⟩:=h;exact Nw hK.row
theorem Bw.form {w:World} {B:Nat} {v:Value} {l:List Cel} (h:Bw w B v l):∃A n c,v=.slice A n c:=Nw h
theorem EV.form {w:World} {B:Nat} {v:Value} {l:List Thr} (h:EV w B v l):∃A n c,v=.slice A n c:=by obtain⟨K,hK,_⟩:=h;exact Nw hK.row
theorem Ir.form {w:World} {B:Nat} {v:Value} {l:List Clm} (h:Ir w B v l):∃A n c,v=.slice A n c:=by obtain⟨K,hK,_⟩:=h;exact Nw hK.row
theorem KV {W:World} {b:Nat} {A1 A2 A3 A4 A5 A6:Option Addr} {n1 n2 n3 n4 n5 n6 m1 m2 m3 m4 m5 m6:Nat} (h:W.heap[b]?=some (.cells #[.slice A1 n1 m1,.slice A2 n2 m2,.slice A3 n3 m3,.slice A4 n4 m4,.slice A5 n5 m5,.slice A6 n6 m6] 27 (0,0))):
  W.cell? ⟨b,0,none⟩=some (.slice A1 n1 m1)/\W.cell? ⟨b,1,none⟩=some (.slice A2 n2 m2)/\W.cell? ⟨b,2,none⟩=some (.slice A3 n3 m3)/\W.cell? ⟨b,3,none⟩=some (.slice A4 n4 m4)/\W.cell? ⟨b,4,none⟩=some (.slice A5 n5 m5)/\W.cell? ⟨b,5,none⟩=some (.slice A6 n6 m6):=
 ⟨by rw[Lib.cell_of_heap h];rfl,by rw[Lib.cell_of_heap h];rfl,by rw[Lib.cell_of_heap h];rfl,by rw[Lib.cell_of_heap h];rfl,by rw[Lib.cell_of_heap h];rfl,by rw[Lib.cell_of_heap h];rfl⟩
theorem QFE {W:World} {b d:Nat} {A1 A2 A3 A4 A5 A6:Option Addr} {n1 n2 n3 n4 n5 n6 m1 m2 m3 m4 m5 m6:Nat} {u0 u1 u2 u3 u4 u5:Value} (h:W.heap[b]?=some (.cells #[.slice A1 n1 m1,.slice A2 n2 m2,.slice A3 n3 m3,.slice A4 n4 m4,.slice A5 n5 m5,.slice A6 n6 m6] 27 (0,0))) (hne:b≠d):
  ((((((W.setCell ⟨d,0,none⟩ u0).setCell ⟨d,1,none⟩ u1).setCell ⟨d,2,none⟩ u2).setCell ⟨d,3,none⟩ u3).setCell ⟨d,4,none⟩ u4).setCell ⟨d,5,none⟩ u5).cell? ⟨b,0,none⟩=some (.slice A1 n1 m1)/\((((((W.setCell ⟨d,0,none⟩ u0).setCell ⟨d,1,none⟩ u1).setCell ⟨d,2,none⟩ u2).setCell ⟨d,3,none⟩ u3).setCell ⟨d,4,none⟩ u4).setCell ⟨d,5,none⟩ u5).cell? ⟨b,1,none⟩=some (.slice A2 n2 m2)/\((((((W.setCell ⟨d,0,none⟩ u0).setCell ⟨d,1,none⟩ u1).setCell ⟨d,2,none⟩ u2).setCell ⟨d,3,none⟩ u3).setCell ⟨d,4,none⟩ u4).setCell ⟨d,5,none⟩ u5).cell? ⟨b,2,none⟩=some (.slice A3 n3 m3)/\((((((W.setCell ⟨d,0,none⟩ u0).setCell ⟨d,1,none⟩ u1).setCell ⟨d,2,none⟩ u2).setCell ⟨d,3,none⟩ u3).setCell ⟨d,4,none⟩ u4).setCell ⟨d,5,none⟩ u5).cell? ⟨b,3,none⟩=some (.slice A4 n4 m4)/\((((((W.setCell ⟨d,0,none⟩ u0).setCell ⟨d,1,none⟩ u1).setCell ⟨d,2,none⟩ u2).setCell ⟨d,3,none⟩ u3).setCell ⟨d,4,none⟩ u4).setCell ⟨d,5,none⟩ u5).cell? ⟨b,4,none⟩=some (.slice A5 n5 m5)/\((((((W.setCell ⟨d,0,none⟩ u0).setCell ⟨d,1,none⟩ u1).setCell ⟨d,2,none⟩ u2).setCell ⟨d,3,none⟩ u3).setCell ⟨d,4,none⟩ u4).setCell ⟨d,5,none⟩ u5).cell? ⟨b,5,none⟩=some (.slice A6 n6 m6):=
 KV (CV (CV (CV (CV (CV (CV h hne) hne) hne) hne) hne) hne)
theorem Uf {w:World} {d T:Nat} {a0 a1 a2 a3 a4 a5:Value} (h:w.heap[d]?=some (.cells #[a0,a1,a2,a3,a4,a5] T (0,0))) (u0 u1 u2 u3 u4 u5:Value):
  ((((((w.setCell ⟨d,0,none⟩ u0).setCell ⟨d,1,none⟩ u1).setCell ⟨d,2,none⟩ u2).setCell ⟨d,3,none⟩ u3).setCell ⟨d,4,none⟩ u4).setCell ⟨d,5,none⟩ u5).heap[d]?=some (.cells #[u0,u1,u2,u3,u4,u5] T (0,0)):=by
 have h0:(w.setCell ⟨d,0,none⟩ u0).heap[d]?=some (.cells #[u0,a1,a2,a3,a4,a5] T (0,0)):=AY h;have h1:((w.setCell ⟨d,0,none⟩ u0).setCell ⟨d,1,none⟩ u1).heap[d]?=some (.cells #[u0,u1,a2,a3,a4,a5] T (0,0)):=AY h0;have h2:(((w.setCell ⟨d,0,none⟩ u0).setCell ⟨d,1,none⟩ u1).setCell ⟨d,2,none⟩ u2).heap[d]?=some (.cells #[u0,u1,u2,a3,a4,a5] T (0,0)):=AY h1;have h3:((((w.setCell ⟨d,0,none⟩ u0).setCell ⟨d,1,none⟩ u1).setCell ⟨d,2,none⟩ u2).setCell ⟨d,3,none⟩ u3).heap[d]?=some (.cells #[u0,u1,u2,u3,a4,a5] T (0,0)):=AY h2
 have h4:(((((w.setCell ⟨d,0,none⟩ u0).setCell ⟨d,1,none⟩ u1).setCell ⟨d,2,none⟩ u2).setCell ⟨d,3,none⟩ u3).setCell ⟨d,4,none⟩ u4).heap[d]?=some (.cells #[u0,u1,u2,u3,u4,a5] T (0,0)):=AY h3;exact AY h4
theorem Ny {d:Nat} (w:World) (u0 u1 u2 u3 u4 u5:Value):AG (fun q=>q=d) w ((((((w.setCell ⟨d,0,none⟩ u0).setCell ⟨d,1,none⟩ u1).setCell ⟨d,2,none⟩ u2).setCell ⟨d,3,none⟩ u3).setCell ⟨d,4,none⟩ u4).setCell ⟨d,5,none⟩ u5):=
 An (An (An (An (An (An (AG.refl _ _) rfl) rfl) rfl) rfl) rfl) rfl
set_option maxRecDepth 100000 in
set_option maxHeartbeats 16000000 in
theorem PE {w:World} {B:Nat} {v:Pv} {P:Prg} (h:B9 w B v P) (hs:Ju P):Calls Tryz.prog 15 #[Hl v] w (fun e w'=>∃u,e=.returned (Hl u)/\B9 w' w.heap.size u (Dv P)/\Below w.heap.size w w'):=by
 obtain⟨A1,n1,m1,A2,n2,m2,A3,n3,m3,A4,n4,m4,A5,n5,m5,A6,n6,m6,rfl⟩:=h.forms;have HP:=AA h;have HS:=AA hs;have h0:=A7 w (.cells #[.slice A1 n1 m1,.slice A2 n2 m2,.slice A3 n3 m3,.slice A4 n4 m4,.slice A5 n5 m5,.slice A6 n6 m6] 27) (.cells #[.slice none 0 0,.slice none 0 0,.slice none 0 0,.slice none 0 0,.slice none 0 0,.slice none 0 0] 27);have H0:=AA h0
 have N1:=AA (((Below.refl _ (w.alloc (.cells #[.slice A1 n1 m1,.slice A2 n2 m2,.slice A3 n3 m3,.slice A4 n4 m4,.slice A5 n5 m5,.slice A6 n6 m6] 27))).alloc (Nat.le_refl _) (.cells #[.slice none 0 0,.slice none 0 0,.slice none 0 0,.slice none 0 0,.slice none 0 0,.slice none 0 0] 27)).block w.heap.size (by simp) |>.trans (heap_alloc_new w (.cells #[.slice A1 n1 m1,.slice A2 n2 m2,.slice A3 n3 m3,.slice A4 n4 m4,.slice A5 n5 m5,.slice A6 n6 m6] 27)))
 have N2:=AA (heap_alloc2_new w (.cells #[.slice A1 n1 m1,.slice A2 n2 m2,.slice A3 n3 m3,.slice A4 n4 m4,.slice A5 n5 m5,.slice A6 n6 m6] 27) (.cells #[.slice none 0 0,.slice none 0 0,.slice none 0 0,.slice none 0 0,.slice none 0 0,.slice none 0 0] 27));clear h hs h0;unfold Hl;go_enter Tryz.func15,Tryz.ntmps15;go_upto_region 1 with(fail)
 obtain⟨b,hb⟩:∃b,w.heap.size=b:=⟨_,rfl⟩
 obtain⟨d,hd⟩:∃d,b+1=d:=⟨_,rfl⟩
 have hsz:((w.alloc (.cells #[.slice A1 n1 m1,.slice A2 n2 m2,.slice A3 n3 m3,.slice A4 n4 m4,.slice A5 n5 m5,.slice A6 n6 m6] 27)).alloc (.cells #[.slice none 0 0,.slice none 0 0,.slice none 0 0,.slice none 0 0,.slice none 0 0,.slice none 0 0] 27)).heap.size=d+1:=by simp;omega
 generalize((w.alloc (.cells #[.slice A1 n1 m1,.slice A2 n2 m2,.slice A3 n3 m3,.slice A4 n4 m4,.slice A5 n5 m5,.slice A6 n6 m6] 27)).alloc (.cells #[.slice none 0 0,.slice none 0 0,.slice none 0 0,.slice none 0 0,.slice none 0 0,.slice none 0 0] 27))=X at *;rw[hb]at N1;rw[hb,hd]at N2;simp only[hb,hd];have hne:b≠d:=by omega
 have HC1:=AA (fun W' (hb:Below X.heap.size X W')=>QFC (HP.out.on (AC H0.out hb)).lines HS.out.nl HS.out.lines);have HC2:=AA (fun W' (hb:Below X.heap.size X W')=>Ue (HP.out.on (AC H0.out hb)).vols HS.out.nv);have HC3:=AA (fun W' (hb:Below X.heap.size X W')=>Ue (HP.out.on (AC H0.out hb)).locks HS.out.nk);have HC4:=AA (fun W' (hb:Below X.heap.size X W')=>TA (HP.out.on (AC H0.out hb)).threads HS.out.nt HS.out.threads);have HC5:=AA (fun W' (hb:Below X.heap.size X W')=>TA (HP.out.on (AC H0.out hb)).recs HS.out.nr HS.out.recs)
 have HC6:=AA (fun W' (hb:Below X.heap.size X W')=>QDJ (HP.out.on (AC H0.out hb)).claims HS.out.nc HS.out.claims);have hltb:b<X.heap.size:=by omega
 have HX:=AA (fun W' (hb:Below X.heap.size X W')=>KV ((hb.block b hltb).trans N1.out));have S0:=HX.out X (Below.refl _ _);go_region_held3 (fun w'=>w'.cell? ⟨b,0,none⟩=some (.slice A1 n1 m1)/\w'.cell? ⟨b,1,none⟩=some (.slice A2 n2 m2)/\w'.cell? ⟨b,2,none⟩=some (.slice A3 n3 m3)/\w'.cell? ⟨b,3,none⟩=some (.slice A4 n4 m4)/\w'.cell? ⟨b,4,none⟩=some (.slice A5 n5 m5)/\w'.cell? ⟨b,5,none⟩=some (.slice A6 n6 m6)) (first|with_reducible assumption|exact S0)
  (first
  |(go_at_call_of 36 (Value.slice A1 n1 m1);refine(HC1.out _ (by first|exact Below.refl _ _|exact AD _)).mono ?_;rintro e1 w1 ⟨v1,rfl,o1,hb1⟩;obtain⟨D1,p1,q1,rfl⟩:=o1.form;have B1:Below X.heap.size X w1:=(by first|exact hb1|exact AC (AD _) hb1);have S1:=HX.out w1 B1)
  |(go_at_call_of 37 (Value.slice A2 n2 m2);refine(HC2.out _ (by first|exact B1|exact AC B1 (AD _))).mono ?_;rintro e2 w2 ⟨v2,rfl,o2,hb2⟩;obtain⟨D2,p2,q2,rfl⟩:=o2.form;have B2:Below X.heap.size X w2:=(by first|exact AC B1 hb2|exact AC (AC B1 (AD _)) hb2);have S2:=HX.out w2 B2)
  |(go_at_call_of 37 (Value.slice A3 n3 m3);refine(HC3.out _ (by first|exact B2|exact AC B2 (AD _))).mono ?_;rintro e3 w3 ⟨v3,rfl,o3,hb3⟩;obtain⟨D3,p3,q3,rfl⟩:=o3.form;have B3:Below X.heap.size X w3:=(by first|exact AC B2 hb3|exact AC (AC B2 (AD _)) hb3);have S3:=HX.out w3 B3)
  |(go_at_call_of 38 (Value.slice A4 n4 m4);refine(HC4.out _ (by first|exact B3|exact AC B3 (AD _))).mono ?_;rintro e4 w4 ⟨v4,rfl,o4,hb4⟩;obtain⟨D4,p4,q4,rfl⟩:=o4.form;have B4:Below X.heap.size X w4:=(by first|exact AC B3 hb4|exact AC (AC B3 (AD _)) hb4);have S4:=HX.out w4 B4)
  |(go_at_call_of 38 (Value.slice A5 n5 m5);refine(HC5.out _ (by first|exact B4|exact AC B4 (AD _))).mono ?_;rintro e5 w5 ⟨v5,rfl,o5,hb5⟩;obtain⟨D5,p5,q5,rfl⟩:=o5.form;have B5:Below X.heap.size X w5:=(by first|exact AC B4 hb5|exact AC (AC B4 (AD _)) hb5);have S5:=HX.out w5 B5)
  |(go_at_call_of 40 (Value.slice A6 n6 m6);refine(HC6.out _ (by first|exact B5|exact AC B5 (AD _))).mono ?_;rintro e6 w6 ⟨v6,rfl,o6,hb6⟩;obtain⟨D6,p6,q6,rfl⟩:=o6.form;have B6:Below X.heap.size X w6:=(by first|exact AC B5 hb6|exact AC (AC B5 (AD _)) hb6);have S6:=HX.out w6 B6;have hx6:=(B6.block b hltb).trans N1.out;have S7:=QFE (d:=d) (u0:=.slice D1 p1 q1) (u1:=.slice D2 p2 q2) (u2:=.slice D3 p3 q3) (u3:=.slice D4 p4 q4) (u4:=.slice D5 p5 q5) (u5:=.slice D6 p6 q6) hx6 hne;have hltd:d<X.heap.size:=(by omega);have hd6:=(B6.block d hltd).trans N2.out;have y0:w6.cell? ⟨d,0,none⟩=some (.slice none 0 0):=(by rw[Lib.cell_of_heap hd6];rfl);have k0:=Lib.frozen_of_heap hd6 0;have y1:w6.cell? ⟨d,1,none⟩=some (.slice none 0 0):=(by rw[Lib.cell_of_heap hd6];rfl);have k1:=Lib.frozen_of_heap hd6 1;have y2:w6.cell? ⟨d,2,none⟩=some (.slice none 0 0):=(by rw[Lib.cell_of_heap hd6];rfl);have k2:=Lib.frozen_of_heap hd6 2;have y3:w6.cell? ⟨d,3,none⟩=some (.slice none 0 0):=(by rw[Lib.cell_of_heap hd6];rfl);have k3:=Lib.frozen_of_heap hd6 3;have y4:w6.cell? ⟨d,4,none⟩=some (.slice none 0 0):=(by rw[Lib.cell_of_heap hd6];rfl);have k4:=Lib.frozen_of_heap hd6 4;have y5:w6.cell? ⟨d,5,none⟩=some (.slice none 0 0):=(by rw[Lib.cell_of_heap hd6];rfl);have k5:=Lib.frozen_of_heap hd6 5))
 have HF:=AA (Uf hd6 (.slice D1 p1 q1) (.slice D2 p2 q2) (.slice D3 p3 q3) (.slice D4 p4 q4) (.slice D5 p5 q5) (.slice D6 p6 q6));have hk:=Ny (d:=d) w6 (.slice D1 p1 q1) (.slice D2 p2 q2) (.slice D3 p3 q3) (.slice D4 p4 q4) (.slice D5 p5 q5) (.slice D6 p6 q6);have hb56:=hb6;have hb46:=AC hb5 hb6;have hb36:=AC hb4 hb46;have hb26:=AC hb3 hb36;have hb16:=AC hb2 hb26;have c1:=B1.size;have c2:=B2.size;have c3:=B3.size;have c4:=B4.size;have c5:=B5.size;have c0:=H0.out.size;have hAv:=fun(Bq:Nat) (Ts:List TypeId) (hT:(27:TypeId)∉Ts)=>LR (B:=Bq) (Ts:=Ts) hd6 hT
 have F1:=AA (((o1.on hb16).keepT hk (hAv _ _ (by decide))).base (B':=w.heap.size) (by first|omega|(simp;omega)));have F2:=AA (((o2.on hb26).keepT hk (hAv _ _ (by decide))).base (B':=w.heap.size) (by omega));have F3:=AA (((o3.on hb36).keepT hk (hAv _ _ (by decide))).base (B':=w.heap.size) (by omega));have F4:=AA (((o4.on hb46).keepT hk (hAv _ _ (by decide))).base (B':=w.heap.size) (by omega));have F5:=AA (((o5.on hb56).keepT hk (hAv _ _ (by decide))).base (B':=w.heap.size) (by omega));have F6:=AA ((o6.keepT hk (hAv _ _ (by decide))).base (B':=w.heap.size) (by omega))
 have FB:=AA ((AC H0.out B6).trans (hk.below (fun k hk h=>by omega) (AC H0.out B6).size));clear hb1 hb2 hb3 hb4 hb5 hb6 hb56 hb46 hb36 hb26 hb16 o1 o2 o3 o4 o5 o6 B1 B2 B3 B4 B5 B6 S0 S1 S2 S3 S4 S5 S6 S7 y0 y1 y2 y3 y4 y5 k0 k1 k2 k3 k4 k5 hk hAv hx6 hd6 HX HC1 HC2 HC3 HC4 HC5 HC6;go_wp2_with fail
 generalize((((((w6.setCell ⟨d,0,none⟩ (.slice D1 p1 q1)).setCell ⟨d,1,none⟩ (.slice D2 p2 q2)).setCell ⟨d,2,none⟩ (.slice D3 p3 q3)).setCell ⟨d,3,none⟩ (.slice D4 p4 q4)).setCell ⟨d,4,none⟩ (.slice D5 p5 q5)).setCell ⟨d,5,none⟩ (.slice D6 p6 q6))=V at *;have v0:V.cell? ⟨d,0,none⟩=some (.slice D1 p1 q1):=by rw[Lib.cell_of_heap HF.out];rfl
 have v1:V.cell? ⟨d,1,none⟩=some (.slice D2 p2 q2):=by rw[Lib.cell_of_heap HF.out];rfl
 have v2:V.cell? ⟨d,2,none⟩=some (.slice D3 p3 q3):=by rw[Lib.cell_of_heap HF.out];rfl
 have v3:V.cell? ⟨d,3,none⟩=some (.slice D4 p4 q4):=by rw[Lib.cell_of_heap HF.out];rfl
 have v4:V.cell? ⟨d,4,none⟩=some (.slice D5 p5 q5):=by rw[Lib.cell_of_heap HF.out];rfl
 have v5:V.cell? ⟨d,5,none⟩=some (.slice D6 p6 q6):=by rw[Lib.cell_of_heap HF.out];rfl
 refine bodyPost_ret (v:=.agg #[.slice D1 p1 q1,.slice D2 p2 q2,.slice D3 p3 q3,.slice D4 p4 q4,.slice D5 p5 q5,.slice D6 p6 q6]) (by simp[results,Tryz.results15,go_sem,v0,v1,v2,v3,v4,v5]) rfl ?_;exact⟨⟨.slice D1 p1 q1,.slice D2 p2 q2,.slice D3 p3 q3,.slice D4 p4 q4,.slice D5 p5 q5,.slice D6 p6 q6⟩,rfl,⟨F1.out,F2.out,F3.out,F4.out,F5.out,F6.out⟩,FB.out⟩
theorem Ug (R:Nat->Ni) (k:Nat):∀c∈EK R k,c.name.length<=40:=by
 intro c hc;simp only[EK,List.mem_map]at hc;obtain⟨i,_,rfl⟩:=hc;exact Jf _
theorem QGh (R:Nat->UF) (k:Nat):∀c∈GK R k,c.length<=40:=by
 intro c hc;simp only[GK,List.mem_map]at hc;obtain⟨i,_,rfl⟩:=hc;exact Jf _
theorem Uh (r:Jj):(Gq r).name.length<=40/\(∀x∈(Gq r).regs,x.length<=40)/\(Gq r).regs.length<=6/\(∀x∈(Gq r).body,Fb x)/\(Gq r).body.length<=50/\∀x∈(Gq r).body,x.e.length<=60/\x.f.length<=60:=by
 refine⟨Jf _,QGh _ _,?_,XQ _ _,?_,fun x hx=>?_⟩
 ·show(GK r.RR (min r.nR 6)).length<=6;rw[OZ];omega
 ·show(IF r.RB (min r.nB 50)).length<=50;rw[LE];omega
 ·have hx':x∈IF r.RB (min r.nB 50):=hx;simp only[IF,List.mem_map]at hx';obtain⟨i,_,rfl⟩:=hx';refine⟨?_,?_⟩
  ·show(Gn _ _).length<=_;rw[Je];omega
  ·show(Gn _ _).length<=_;rw[Je];omega
theorem Xz (R:Nat->Jj) (k:Nat):∀t∈FI R k,∃r,t=Gq r:=by
 intro t ht;simp only[FI,List.mem_map]at ht;obtain⟨i,_,rfl⟩:=ht;exact⟨_,rfl⟩
theorem X0 (R:Nat->UG) (k:Nat):∀l∈Jk R k,l.length<=8/\∀c∈l,c.name.length<=40:=by
 intro l hl;simp only[Jk,List.mem_map]at hl;obtain⟨i,_,rfl⟩:=hl;exact⟨by rw[IW];omega,Ug _ _⟩
theorem QDL (R:Nat->UH) (k:Nat):∀c∈KZ R k,Ej c.e/\c.e.length<=60:=by
 intro c hc;simp only[KZ,List.mem_map]at hc;obtain⟨i,_,rfl⟩:=hc;exact⟨MO _ _,by show(Gn _ _).length<=_;rw[Je];omega⟩
theorem QA2 (p:MR):GU (Nj p)/\Ju (Nj p):=by
 have l1:(Jk p.rL (min p.nL 6)).length<=6:=by rw[Oa];omega
 have l2:(EK p.rV (min p.nV 8)).length<=8:=by rw[IW];omega
 have l3:(EK p.rK (min p.nK 8)).length<=8:=by rw[IW];omega
 have l4:(FI p.rT (min p.nT 4)).length<=4:=by rw[Lm];omega
 have l5:(FI p.rO (min p.nO 4)).length<=4:=by rw[Lm];omega
 have l6:(KZ p.rM (min p.nM 6)).length<=6:=by rw[Ob];omega
 have ht:∀(R:Nat->Jj) (k:Nat),∀t∈FI R k,DX t/\Gw t:=fun R k t h=>by
  obtain⟨r,rfl⟩:=Xz R k t h;obtain⟨h1,h2,h3,h4,h5,h6⟩:=Uh r;exact⟨⟨by omega,fun x hx=>by have:=h2 x hx;omega,by omega,h4,by omega⟩,⟨by omega,by omega,fun x hx=>by have:=h6 x hx;omega⟩⟩
 refine⟨⟨Nat.le_trans l1 (by omega),fun l hl=>?_,Nat.le_trans l2 (by omega),fun c hc=>?_,Nat.le_trans l3 (by omega),fun c hc=>?_,Nat.le_trans l4 (by omega),fun t h=>(ht _ _ t h).1,Nat.le_trans l5 (by omega),fun t h=>(ht _ _ t h).1,Nat.le_trans l6 (by omega),fun c hc=>?_⟩,
  ⟨Nat.le_trans l1 (by omega),fun l hl=>?_,Nat.le_trans l2 (by omega),Nat.le_trans l3 (by omega),Nat.le_trans l4 (by omega),fun t h=>(ht _ _ t h).2,Nat.le_trans l5 (by omega),fun t h=>(ht _ _ t h).2,Nat.le_trans l6 (by omega),fun c hc=>?_⟩⟩
 ·obtain⟨h1,h2⟩:=X0 _ _ l hl;exact⟨by omega,fun c hc=>by have:=h2 c hc;unfold Dt;omega⟩
 ·have:=Ug _ _ c hc;unfold Dt;omega
 ·have:=Ug _ _ c hc;unfold Dt;omega
 ·obtain⟨h1,h2⟩:=QDL _ _ c hc;exact⟨h1,by omega⟩
 ·have:=(X0 _ _ l hl).1;omega
 ·have:=(QDL _ _ c hc).2;omega
theorem Ui {α:Type} (wt:α->Nat) (m:Nat):∀l:List α,(∀a∈l,wt a<=m)->sumW wt l<=l.length*(m+1)
 |[],_=>by simp[sumW]
 |a::l,h=>by
  have h1:=h a (by simp);have h2:=Ui wt m l (fun b hb=>h b (by simp[hb]));simp only[sumW,List.length_cons,Nat.succ_mul];omega
theorem QDM {p:MR} (h:BH (Nj p)=true):(BQ (Nj p)).length<=900000000:=by
 have l1:(Jk p.rL (min p.nL 6)).length<=6:=by rw[Oa];omega
 have l2:(EK p.rV (min p.nV 8)).length<=8:=by rw[IW];omega
 have l3:(EK p.rK (min p.nK 8)).length<=8:=by rw[IW];omega
 have l4:(FI p.rT (min p.nT 4)).length<=4:=by rw[Lm];omega
 have l6:(KZ p.rM (min p.nM 6)).length<=6:=by rw[Ob];omega
 have hr:=h;unfold BH at hr;simp only[Bool.and_eq_true,decide_eq_true_eq]at hr;have s1:=Ui List.length 8 _ (fun l hl=>(X0 p.rL (min p.nL 6) l hl).1);have s4:=Ui (fun t:Thr=>t.regs.length) 6 (FI p.rT (min p.nT 4)) (fun t ht=>by obtain⟨r,rfl⟩:=Xz _ _ t ht;exact(Uh r).2.2.1);have m1:(Jk p.rL (min p.nL 6)).length*9<=54:=by omega
 have m4:(FI p.rT (min p.nT 4)).length*7<=28:=by omega
 exact Xy h (n:=100) (by omega) ⟨Nat.le_trans s1 (by omega),Nat.le_trans l2 (by omega),Nat.le_trans l3 (by omega),Nat.le_trans s4 (by omega),hr.2,fun t ht=>by obtain⟨r,rfl⟩:=Xz _ _ t ht;have:=(Uh r).2.2.1;omega,Nat.le_trans l6 (by omega)⟩
set_option maxRecDepth 100000 in
set_option maxHeartbeats 8000000 in
theorem QDN {w:World} {B:Nat} {v:Pv} {P:Prg} (h:B9 w B v P) (hs:GU P) (ht:Tabs w) (hq:BH P=false):Calls Tryz.prog 18 #[Hl v] w (Br (JJ P) w):=by
 obtain⟨A1,n1,m1,A2,n2,m2,A3,n3,m3,A4,n4,m4,A5,n5,m5,A6,n6,m6,rfl⟩:=h.forms;have HP:=AA h;have HS:=AA hs;have HT:=AA ht;have HQ:=AA hq;have HR:=AA (fun w' (hb:Below w.heap.size w w')=>RJ (HP.out.on hb) HS.out (HT.out.on hb));rw[hq]at HR;have HB0:Hid (Below w.heap.size w (w.alloc (.cells #[.slice A1 n1 m1,.slice A2 n2 m2,.slice A3 n3 m3,.slice A4 n4 m4,.slice A5 n5 m5,.slice A6 n6 m6] 27))):=AA ((Below.refl _ _).alloc (Nat.le_refl _) _);have HRC:=AA (HR.out _ HB0.out);clear h hs ht hq HR;unfold Hl at HRC⊢;go_enter Tryz.func18,Tryz.ntmps18;go_wp2_with fail
 refine HRC.out.mono ?_;rintro e w1 ⟨rfl,hb⟩;replace HB0:=AA (AC HB0.out hb);clear hb HRC;go_wp2_with fail
 go_ret;exact BZ rfl (by unfold JJ;rw[HQ.out];rfl) HB0.out
theorem QA3 {w:World} {B:Nat} {v:Pv} {P:Prg} (h:B9 w B v P) (hs:GU P) (ht:Tabs w) (hl:BH P=true->(BQ P).length<=900000000):Calls Tryz.prog 18 #[Hl v] w (Br (JJ P) w):=by
 cases hq:BH P with
 |true=>exact QFk h hs ht (hl hq)
 |false=>exact QDN h hs ht hq
structure QDR (w:World) (p:MR) (d i j:Nat) (u:Pv) (wj:World):Prop where
 low:Below w.heap.size w wj
 bx:wj.heap[w.heap.size]?=some (.cells #[.slice p.aL p.nL p.cL,.slice p.aV p.nV p.cV,.slice p.aK p.nK p.cK,.slice p.aT p.nT p.cT,.slice p.aO p.nO p.cO,.slice p.aM p.nM p.cM] 27 (0,0))
 rx:wj.heap[w.heap.size+1]?=some (.cells #[.slice none 0 0,.slice none 0 0,.slice none 0 0,.slice none 0 0,.slice none 0 0,.slice none 0 0] 27 (0,0))
 dx:w.heap.size+1<d
 cs:wj.heap[d]?=some (.cells #[u.a,u.b,u.c,u.d,u.e,u.f] 27 (0,0))
 own:B9 wj w.heap.size u ⟨Jk p.rL i,EK p.rV (min p.nV 8),EK p.rK (min p.nK 8),FI p.rT (min p.nT 4),FI p.rO (min p.nO 4),KZ p.rM j⟩
def AtQ (w:World) (p:MR) (d i j:Nat) (wj:World):Prop:=∃u,QDR w p d i j u wj
theorem Ks {w:World} {d B:Nat} {cs:Array Value} {Ts:List TypeId} (h:w.heap[d]?=some (.cells cs 27 (0,0))) (hT:(27:TypeId)∉Ts):Av (fun q=>q=d) w B Ts:=X1 h hT
theorem QG5 {w X:World} {p:MR} {d B2 B3 B4 B5:Nat} {v2 v3 v4 v5:Value} (h0:Below w.heap.size w X) (hb:X.heap[w.heap.size]?=some (.cells #[.slice p.aL p.nL p.cL,.slice p.aV p.nV p.cV,.slice p.aK p.nK p.cK,.slice p.aT p.nT p.cT,.slice p.aO p.nO p.cO,.slice p.aM p.nM p.cM] 27 (0,0))) (hr:X.heap[w.heap.size+1]?=some (.cells #[.slice none 0 0,.slice none 0 0,.slice none 0 0,.slice none 0 0,.slice none 0 0,.slice none 0 0] 27 (0,0)))
  (hd:w.heap.size+1<d) (hc:X.heap[d]?=some (.cells #[.slice none 0 0,.slice none 0 0,.slice none 0 0,.slice none 0 0,.slice none 0 0,.slice none 0 0] 27 (0,0))) (o2:Bw X B2 v2 (EK p.rV (min p.nV 8))) (o3:Bw X B3 v3 (EK p.rK (min p.nK 8))) (o4:EV X B4 v4 (FI p.rT (min p.nT 4))) (o5:EV X B5 v5 (FI p.rO (min p.nO 4)))
  (hB:w.heap.size<=B2/\w.heap.size<=B3/\w.heap.size<=B4/\w.heap.size<=B5):
  AtQ w p d 0 0 ((((((X.setCell ⟨d,0,none⟩ (.slice none 0 0)).setCell ⟨d,1,none⟩ v2).setCell ⟨d,2,none⟩ v3).setCell ⟨d,3,none⟩ v4).setCell ⟨d,4,none⟩ v5).setCell ⟨d,5,none⟩ (.slice none 0 0)):=by
 have hk:=Ny (d:=d) X (.slice none 0 0) v2 v3 v4 v5 (.slice none 0 0);have hf:=Uf hc (.slice none 0 0) v2 v3 v4 v5 (.slice none 0 0);generalize((((((X.setCell ⟨d,0,none⟩ (.slice none 0 0)).setCell ⟨d,1,none⟩ v2).setCell ⟨d,2,none⟩ v3).setCell ⟨d,3,none⟩ v4).setCell ⟨d,4,none⟩ v5).setCell ⟨d,5,none⟩ (.slice none 0 0))=Y at *;have e:∀q,q<d->q<X.heap.size->Y.heap[q]?=X.heap[q]?:=fun q h1 h2=>hk.block q h2 (by omega)
 have l1:=(Array.getElem?_eq_some_iff.1 hb).1;have l2:=(Array.getElem?_eq_some_iff.1 hr).1;exact⟨⟨.slice none 0 0,v2,v3,v4,v5,.slice none 0 0⟩,h0.trans (hk.below (fun q hq e=>by omega) h0.size),by rw[e _ (by omega) l1];exact hb,by rw[e _ (by omega) l2];exact hr,hd,hf,
  ⟨LI _ _,(o2.base hB.1).keepT hk (Ks hc (by decide)),(o3.base hB.2.1).keepT hk (Ks hc (by decide)),(o4.base hB.2.2.1).keepT hk (Ks hc (by decide)),(o5.base hB.2.2.2).keepT hk (Ks hc (by decide)),LJ _ _⟩⟩
theorem QG6 {w X:World} {p:MR} {B2 B3 B4 B5:Nat} {v2 v3 v4 v5:Value} (h0:Below w.heap.size w X) (hb:X.heap[w.heap.size]?=some (.cells #[.slice p.aL p.nL p.cL,.slice p.aV p.nV p.cV,.slice p.aK p.nK p.cK,.slice p.aT p.nT p.cT,.slice p.aO p.nO p.cO,.slice p.aM p.nM p.cM] 27 (0,0))) (hr:X.heap[w.heap.size+1]?=some (.cells #[.slice none 0 0,.slice none 0 0,.slice none 0 0,.slice none 0 0,.slice none 0 0,.slice none 0 0] 27 (0,0)))
  (o2:Bw X B2 v2 (EK p.rV (min p.nV 8))) (o3:Bw X B3 v3 (EK p.rK (min p.nK 8))) (o4:EV X B4 v4 (FI p.rT (min p.nT 4))) (o5:EV X B5 v5 (FI p.rO (min p.nO 4)))
  (hB:w.heap.size<=B2/\w.heap.size<=B3/\w.heap.size<=B4/\w.heap.size<=B5):
  AtQ w p X.heap.size 0 0 (X.alloc (.cells #[.slice none 0 0,v2,v3,v4,v5,.slice none 0 0] 27)):=by
 have hA:Below X.heap.size X (X.alloc (.cells #[.slice none 0 0,v2,v3,v4,v5,.slice none 0 0] 27)):=(Below.refl _ _).alloc (Nat.le_refl _) _;have hn:=heap_alloc_new X (.cells #[.slice none 0 0,v2,v3,v4,v5,.slice none 0 0] 27);generalize X.alloc (.cells #[.slice none 0 0,v2,v3,v4,v5,.slice none 0 0] 27)=Y at *;have l1:=(Array.getElem?_eq_some_iff.1 hb).1;have l2:=(Array.getElem?_eq_some_iff.1 hr).1;exact⟨⟨.slice none 0 0,v2,v3,v4,v5,.slice none 0 0⟩,AC h0 hA,(hA.block _ l1).trans hb,(hA.block _ l2).trans hr,by omega,hn,
  ⟨LI _ _,(o2.base hB.1).on hA,(o3.base hB.2.1).on hA,(o4.base hB.2.2.1).on hA,(o5.base hB.2.2.2).on hA,LJ _ _⟩⟩
theorem JL {w:World} {B T m n:Nat} {v:Value} {xs:List Value} {B':Nat} {Ts:List TypeId} (h:w.ownsRow B T m v n xs) (hT:T∉Ts):Av (fun q=>v.ownBlock=some q) w B' Ts:=fun q cs' T' _ hh hT' e=>by
 obtain⟨_,cs,h5⟩:=AI h q e;rw[h5]at hh;simp only[Option.some.injEq,Obj.cells.injEq]at hh;exact hT (hh.2.1▸hT')
theorem QDR.line {w wj w1 w5:World} {p:MR} {d i j B:Nat} {u:Pv} {K:List Lv} {vC v5:Value} {o:Obj} (h:QDR w p d i j u wj) (hK:Ep wj w.heap.size u.a K) (hm:K.map (·.l)=Jk p.rL i) (hb:Below wj.heap.size wj w1)
  (ho:Bw w1 B vC (EK (p.rL i).R (min (p.rL i).n 8))) (hB:wj.heap.size<=B) (hg:(w1.alloc o).grownBy w5 u.a.ownBlock) (hr:w5.ownsRow w.heap.size 23 1 v5 (K.length+1) (K.map (·.v)++[vC])):AtQ w p d (i+1) j (w5.setCell ⟨d,0,none⟩ v5):=by
 have hA:Below wj.heap.size wj (w1.alloc o):=AC hb ((Below.refl _ _).alloc (Nat.le_refl _) o);have hA1:Below w1.heap.size w1 (w1.alloc o):=(Below.refl _ _).alloc (Nat.le_refl _) o;have hsz:=h.low.size;have hKA:=hK.on hA;have hk5:AG (fun q=>u.a.ownBlock=some q) (w1.alloc o) w5:=AG.grown hg;have hkj:AG (fun q=>u.a.ownBlock=some q) wj w5:=Cd hA hk5;have hks:AG (fun q=>q=d) w5 (w5.setCell ⟨d,0,none⟩ v5):=AG.set;have hty:=AI hK.row;have hn:∀(q:Nat) (cs:Array Value),wj.heap[q]?=some (.cells cs 27 (0,0))->¬u.a.ownBlock=some q:=fun q cs hq e=>by
  obtain⟨_,cs',h5⟩:=hty q e;rw[hq]at h5;simp at h5
 have g:∀(q:Nat) (cs:Array Value),wj.heap[q]?=some (.cells cs 27 (0,0))->w5.heap[q]?=some (.cells cs 27 (0,0)):=fun q cs hq=>(hkj.block q (Array.getElem?_eq_some_iff.1 hq).1 (hn q cs hq)).trans hq
 have h5:Below w.heap.size w w5:=h.low.trans (hkj.below (fun q hq e=>by have:=(hty q e).1;omega) hsz);have hdd:=h.dx;have e:∀q,q<d->q<w5.heap.size->(w5.setCell ⟨d,0,none⟩ v5).heap[q]?=w5.heap[q]?:=fun q h1 h2=>hks.block q h2 (by omega)
 have l1:=(Array.getElem?_eq_some_iff.1 (g _ _ h.bx)).1;have l2:=(Array.getElem?_eq_some_iff.1 (g _ _ h.rx)).1;have hcs:=g _ _ h.cs;have aL:=Yn (x:=⟨EK (p.rL i).R (min (p.rL i).n 8),vC⟩) hKA ((ho.base (Nat.le_trans hsz hB)).on hA1) hg hr;refine⟨⟨v5,u.b,u.c,u.d,u.e,u.f⟩,h5.trans (hks.below (fun q hq e=>by omega) h5.size),by rw[e _ (by omega) l1];exact g _ _ h.bx,by rw[e _ (by omega) l2];exact g _ _ h.rx,h.dx,AY hcs,?_⟩;have f:=h.own;exact⟨⟨K++[⟨EK (p.rL i).R (min (p.rL i).n 8),vC⟩],aL.keepT hks (Ks hcs (by decide)),by rw[List.map_append,hm,XW];rfl⟩,
  (f.vols.keepT hkj (JL hK.row (by decide))).keepT hks (Ks hcs (by decide)),(f.locks.keepT hkj (JL hK.row (by decide))).keepT hks (Ks hcs (by decide)),
  (f.threads.keepT hkj (JL hK.row (by decide))).keepT hks (Ks hcs (by decide)),(f.recs.keepT hkj (JL hK.row (by decide))).keepT hks (Ks hcs (by decide)),(f.claims.keepT hkj (JL hK.row (by decide))).keepT hks (Ks hcs (by decide))⟩
theorem QDR.claim {w wj w1 w5:World} {p:MR} {d i j B:Nat} {u:Pv} {K:List Cv} {vE v5:Value} {o:Obj} (h:QDR w p d i j u wj) (hK:Dy wj w.heap.size u.f K) (hm:K.map (·.c)=KZ p.rM j) (hb:Below wj.heap.size wj w1)
  (ho:B0 B w1 vE (Gn (p.rM j).RE (min (p.rM j).nE 60))) (hB:wj.heap.size<=B) (hg:(w1.alloc o).grownBy w5 u.f.ownBlock) (hr:w5.ownsRow w.heap.size 50 2 v5 (K.length+1) (K.flatMap Ed++[vE,.int .i64 (p.rM j).pl])):AtQ w p d i (j+1) (w5.setCell ⟨d,5,none⟩ v5):=by
 have hA:Below wj.heap.size wj (w1.alloc o):=AC hb ((Below.refl _ _).alloc (Nat.le_refl _) o);have hA1:Below w1.heap.size w1 (w1.alloc o):=(Below.refl _ _).alloc (Nat.le_refl _) o;have hsz:=h.low.size;have hKA:=hK.on hA;have hk5:AG (fun q=>u.f.ownBlock=some q) (w1.alloc o) w5:=AG.grown hg;have hkj:AG (fun q=>u.f.ownBlock=some q) wj w5:=Cd hA hk5;have hks:AG (fun q=>q=d) w5 (w5.setCell ⟨d,5,none⟩ v5):=AG.set;have hty:=AI hK.row;have hn:∀(q:Nat) (cs:Array Value),wj.heap[q]?=some (.cells cs 27 (0,0))->¬u.f.ownBlock=some q:=fun q cs hq e=>by
  obtain⟨_,cs',h5⟩:=hty q e;rw[hq]at h5;simp at h5
 have g:∀(q:Nat) (cs:Array Value),wj.heap[q]?=some (.cells cs 27 (0,0))->w5.heap[q]?=some (.cells cs 27 (0,0)):=fun q cs hq=>(hkj.block q (Array.getElem?_eq_some_iff.1 hq).1 (hn q cs hq)).trans hq
 have h5:Below w.heap.size w w5:=h.low.trans (hkj.below (fun q hq e=>by have:=(hty q e).1;omega) hsz);have hdd:=h.dx;have e:∀q,q<d->q<w5.heap.size->(w5.setCell ⟨d,5,none⟩ v5).heap[q]?=w5.heap[q]?:=fun q h1 h2=>hks.block q h2 (by omega)
 have l1:=(Array.getElem?_eq_some_iff.1 (g _ _ h.bx)).1;have l2:=(Array.getElem?_eq_some_iff.1 (g _ _ h.rx)).1;have hcs:=g _ _ h.cs;have aL:=Yo (x:=⟨⟨Gn (p.rM j).RE (min (p.rM j).nE 60),(p.rM j).pl⟩,vE⟩) hKA ((ho.base (Nat.le_trans hsz hB)).on hA1) hg hr;refine⟨⟨u.a,u.b,u.c,u.d,u.e,v5⟩,h5.trans (hks.below (fun q hq e=>by omega) h5.size),by rw[e _ (by omega) l1];exact g _ _ h.bx,by rw[e _ (by omega) l2];exact g _ _ h.rx,h.dx,AY hcs,?_⟩;have f:=h.own;exact⟨(f.lines.keepT hkj (JL hK.row (by decide))).keepT hks (Ks hcs (by decide)),
  (f.vols.keepT hkj (JL hK.row (by decide))).keepT hks (Ks hcs (by decide)),(f.locks.keepT hkj (JL hK.row (by decide))).keepT hks (Ks hcs (by decide)),
  (f.threads.keepT hkj (JL hK.row (by decide))).keepT hks (Ks hcs (by decide)),(f.recs.keepT hkj (JL hK.row (by decide))).keepT hks (Ks hcs (by decide)),
  ⟨K++[⟨⟨Gn (p.rM j).RE (min (p.rM j).nE 60),(p.rM j).pl⟩,vE⟩],aL.keepT hks (Ks hcs (by decide)),by rw[List.map_append,hm,XX];rfl⟩⟩
end Go.Proofs.YthfkpalfopdmhaaGreatDoor
