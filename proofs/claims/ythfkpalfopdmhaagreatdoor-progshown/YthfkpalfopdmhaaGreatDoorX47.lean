/- Texts of the walk, packed. -/
import Derived.Test.YthfkpalfopdmhaaGreatDoorX38
import Derived.Test.YthfkpalfopdmhaaGreatDoorX34
import Derived.Test.YthfkpalfopdmhaaGreatDoorX43
import Derived.Test.YthfkpalfopdmhaaGreatDoorX44
import Derived.Test.YthfkpalfopdmhaaGreatDoorX42
import Derived.Test.YthfkpalfopdmhaaGreatDoorX41
import Derived.Deep.RegionHeld3
import Derived.Test.YthfkpalfopdmhaaGreatDoorX00
namespace Go.Proofs.YthfkpalfopdmhaaGreatDoor
open Go.RowKit
set_option maxRecDepth 100000 in
set_option maxHeartbeats 8000000 in
theorem MJ {K:List Cel} {v:Value} {w:World} {B:Nat} (h:CX w B v K) (ht:Tabs w) (hl:K.length≤10000) (hs:∀c∈K,0≤c.n∧c.n≤4294967296∧c.name.length≤100000):
  Calls Tryz.prog 58 #[v] w (fun e w'=>∃u,e=.returned u∧C9 w' w.heap.size u (K.map EY)∧Below w.heap.size w w'):=by
 obtain⟨i0,hi0,hz0,hz1,hz2⟩:=info_parts TY;have HZ:=AA (show Tryz.prog.info? 9=some i0∧i0.zero=some (.string ⟨#[]⟩)∧i0.size=1∧i0.bytes=16 from⟨hi0,hz0,hz1,hz2⟩);have HO:=AA h;have HTB:=AA ht;have HS:=AA hs;obtain⟨A,c,rfl,hc,hm1,hr1⟩:=h.reads;clear hi0 hz0 hz1 hz2 hr1 h ht hs;go_enter Tryz.func58,Tryz.ntmps58;go_wp2_with fail
 go_loopw [3,9] (fun all i wr=>∃k:Nat,k≤K.length∧i=.int .i64 k∧Below w.heap.size w wr∧C9 wr w.heap.size all ((K.take k).map EY)) (fun _ i _=>K.length-(intOf i).toNat)
 case atStart=>exact⟨0,Nat.zero_le _,rfl,Below.refl _ _,Ky _ _⟩
 case round=>
  obtain⟨k,hk,rfl,hbel,hacc⟩:=hrel;have HB:=AA hbel;have HA:=AA hacc;have hsz:=hbel.size;by_cases hlt:k<K.length
  ·have ha:K[k]?=some K[k]:=List.getElem?_eq_getElem hlt;obtain⟨hn0,hn1,hn2⟩:=HS.out K[k] (List.getElem_mem hlt);generalize K[k]=a at *;have HT:Hid ((K.take (k+1)).map EY=(K.take k).map EY++[EY a]):=AA (by rw[List.take_add_one,ha,List.map_append];rfl);have HN:Hid (((K.take k).map EY).length=k):=AA (by simp;omega);obtain⟨A2,c2,hv,_,_,hr⟩:=(HO.out.on hbel).reads;obtain⟨rfl,_,rfl⟩:A=A2∧True∧c=c2:=by simpa using hv
   obtain⟨g,rfl, -,hg,x0,x1,x2⟩:=hr k a ha;obtain⟨A3,c3,rfl, -, -, -⟩:=hacc.reads;generalize(K.take k).map EY=acc at *;have HAL:=AA ((Below.refl wr.heap.size wr).alloc (Nat.le_refl _) (.cells #[.string ⟨a.name.toArray⟩,.int .i64 a.n,.int .i64 a.pl] 48));clear ha hr hv hbel hacc;have hlt':=hlt;by_cases hz:a.n=0
   ·have HE:Hid (a.name=EY a):=AA (by unfold EY;rw[if_pos hz,List.append_nil]);rw[hz]at HAL;go_upto_region 8 with(fail)
    have HB1:=AA (AC HB.out HAL.out);have HA1:=AA (AW (P:=fun _=>False) HA.out (AG.of HAL.out) (fun _ _=>id));clear HAL;generalize wr.alloc (.cells #[.string ⟨a.name.toArray⟩,.int .i64 0,.int .i64 a.pl] 48)=w1 at *;have hsz1:=HB1.out.size;have hTA:(⟨a.name.toArray⟩:ByteArray)=⟨(EY a).toArray⟩:=by rw[←HE.out]
    rw[hTA];clear hTA;generalize EY a=ta at *;go_wp2_with (at_builtin;refine wpList_append_own _ rfl (.tmp 24) (.tmp 26) 38 rfl w.heap.size 9 i0 (.string ⟨#[]⟩) 1 16 Tryz.underlying38 HZ.out.1 HZ.out.2.1 HZ.out.2.2.1 HZ.out.2.2.2 rfl (by decide) _ acc.length (acc.map MA) rfl ?dO ⟨w1.heap.size,0,none⟩ 1 1 ([MA ta]) (by rfl) (by rfl) ?d1 ?d2 ?d3 ?d4 ?d5 ?_)
    case dO=>exact AW (P:=fun _=>False) HA1.out (AG.of ((Below.refl w1.heap.size w1).alloc (Nat.le_refl _) _)) (fun _ _=>id)
    case d1=>exact World.news_of_block (cs:=#[MA ta]) (alloc_at rfl)
    case d2=>exact Oq _
    case d3=>rw[HN.out];unfold maxLen;omega
    case d4=>rw[HN.out];omega
    case d5=>simp;omega
    intro v5 w5 hown5 hgrow5 _;have HB5:Hid (Below w.heap.size w w5):=AA ((HB1.out.alloc hsz1 _).grown hgrow5 (by simp;omega) (fun q hq=>(AM HA1.out q hq).1));have HA5:Hid (C9 w5 w.heap.size v5 (acc++[ta])):=AA (by
     unfold C9;rw[List.length_append];simpa using hown5)
    obtain⟨A5,n5,c5,rfl⟩:∃A n c,v5=.slice A n c:=by
     obtain⟨A,c,hv,_⟩:=AX hown5;exact⟨A,_,c,hv⟩
    clear hown5 hgrow5;go_wp2_with fail
    go_roundw;case rel=>exact⟨k+1,by omega,by go_num,HB5.out,by rw[HT.out];exact HA5.out⟩
    case measure=>simp[intOf];omega
   ·have HE:Hid (a.name++([32,61,32]++Lib.itoa a.n)=EY a):=AA (by unfold EY;rw[if_neg hz]);have hit:(Lib.itoa a.n).length≤30:=Nat.le_trans (Lib.itoa_length_le a.n (by omega) (by omega)) (by decide);have HW:=AA (Nh a.n (by omega) (by omega) _ (HTB.out.on (AC HB.out HAL.out)));have hcat1:¬(9223372036854775807<3+(Lib.itoa a.n).length):=by omega
    have hcat2:¬(9223372036854775807<a.name.length+(3+(Lib.itoa a.n).length)):=by omega
    generalize Lib.itoa a.n=it at *;go_upto_region 8 with(first|(go_at_call 116;refine HW.out.mono ?_;rintro e w1 ⟨rfl,hb⟩))
    have HB1:=AA (AC (AC HB.out HAL.out) hb);have HA1:=AA (AW (P:=fun _=>False) (AW (P:=fun _=>False) HA.out (AG.of HAL.out) (fun _ _=>id)) (AG.of hb) (fun _ _=>id));clear hb HAL;have hsz1:=HB1.out.size;have hTA:(⟨a.name.toArray⟩++(⟨#[32,61,32]⟩++⟨it.toArray⟩):ByteArray)=⟨(EY a).toArray⟩:=by rw[←HE.out,←Cb,←Cb]
    rw[hTA];clear hTA;generalize EY a=ta at *;go_wp2_with (at_builtin;refine wpList_append_own _ rfl (.tmp 24) (.tmp 26) 38 rfl w.heap.size 9 i0 (.string ⟨#[]⟩) 1 16 Tryz.underlying38 HZ.out.1 HZ.out.2.1 HZ.out.2.2.1 HZ.out.2.2.2 rfl (by decide) _ acc.length (acc.map MA) rfl ?dO ⟨w1.heap.size,0,none⟩ 1 1 ([MA ta]) (by rfl) (by rfl) ?d1 ?d2 ?d3 ?d4 ?d5 ?_)
    case dO=>exact AW (P:=fun _=>False) HA1.out (AG.of ((Below.refl w1.heap.size w1).alloc (Nat.le_refl _) _)) (fun _ _=>id)
    case d1=>exact World.news_of_block (cs:=#[MA ta]) (alloc_at rfl)
    case d2=>exact Oq _
    case d3=>rw[HN.out];unfold maxLen;omega
    case d4=>rw[HN.out];omega
    case d5=>simp;omega
    intro v5 w5 hown5 hgrow5 _;have HB5:Hid (Below w.heap.size w w5):=AA ((HB1.out.alloc hsz1 _).grown hgrow5 (by simp;omega) (fun q hq=>(AM HA1.out q hq).1));have HA5:Hid (C9 w5 w.heap.size v5 (acc++[ta])):=AA (by
     unfold C9;rw[List.length_append];simpa using hown5)
    obtain⟨A5,n5,c5,rfl⟩:∃A n c,v5=.slice A n c:=by
     obtain⟨A,c,hv,_⟩:=AX hown5;exact⟨A,_,c,hv⟩
    clear hown5 hgrow5;go_wp2_with fail
    go_roundw;case rel=>exact⟨k+1,by omega,by go_num,HB5.out,by rw[HT.out];exact HA5.out⟩
    case measure=>simp[intOf];omega
  ·have hkk:K.take k=K:=List.take_of_length_le (by omega);rw[hkk]at HA;clear hbel hacc;go_wp2_with fail
   go_ret;exact⟨_,rfl,HA.out,HB.out⟩
structure JF (w:World) (v:Pv) (D:Nat) (l:List UInt8) (W:World):Prop where
 box:Jm W w.heap.size v
 bld:Lib.IsBuilder 93 5 D D (Lib.byteCells l) W
 low:Below w.heap.size w W
theorem JF.size {w:World} {v:Pv} {D:Nat} {l:List UInt8} {W:World} (h:JF w v D l W):D≤W.heap.size:=by
 obtain⟨c,hb⟩:=IZ h.bld;exact Nat.le_of_lt (Array.getElem?_eq_some_iff.1 hb).1
theorem JF.call {w:World} {v:Pv} {D:Nat} {l:List UInt8} {W W':World} (h:JF w v D l W) (hb:Below W.heap.size W W'):JF w v D l W':=
 ⟨h.box.on hb,L2 h.bld hb,AC h.low hb⟩
theorem JF.write {w:World} {v:Pv} {D n:Nat} {l l':List UInt8} {W W':World} {e:Ending} (h:JF w v D l W) (hD:w.heap.size<D) (hw:TM D D n l' W e W'):JF w v D l' W':=by
 obtain⟨_,h1,h2,h3⟩:=hw;exact⟨h3 _ _ h.box (fun e=>by cases e;omega) (fun c fz e=>by cases e),h1,h.low.trans (h2.mono (by omega))⟩
theorem MK {l:List Cel} {m:Int} (hm:m≤4294967296) (h:l.all (Aw m)=true):∀c∈l,0≤c.n∧c.n≤4294967296∧c.name.length≤100000:=fun c hc=>by
 have:=List.all_eq_true.1 h c hc;unfold Aw at this;simp only[Bool.and_eq_true,decide_eq_true_eq]at this;have hn:=EO this.1.1.1;exact⟨this.1.1.2,by omega,by omega⟩
theorem XM (wd:List UInt8) (l:List Cel):GF wd (l.map EY)=KN wd l:=by
 unfold GF KN rowT;rw[R9];cases l<;>rfl
theorem Ou (wd:List UInt8) (ts:List (List UInt8)):(FY ts).length≤(GF wd ts).length:=by
 unfold GF;cases ts with
 |nil=>simp[FY,Lib.join]
 |cons a l=>simp only[List.isEmpty_cons,Bool.false_eq_true,if_false,List.length_append,List.length_cons];omega
theorem QD5 (w:World) (s:List UInt8):C9 (w.alloc (.cells #[.string ⟨s.toArray⟩] 9)) 0 (.slice (some ⟨w.heap.size,0,none⟩) 1 1) [s]:=
 ⟨rfl,.inr ⟨w.heap.size,1,#[.string ⟨s.toArray⟩],rfl,Nat.zero_le _,heap_alloc_new w _,Nat.le_refl _,by decide,rfl,rfl⟩⟩
theorem X3 {w w':World} {B:Nat} {v:Value} {M:List Stm} (h:Fh w B v M) (hb:Below w.heap.size w w'):Fh w' B v M:=h.keepT (AG.of hb) Av.none
theorem SB {t:Thr} {b:Bool} (h:Bh b t=true) (hn:t.regs.length≤10000):(FY t.regs).length≤1000000:=by
 unfold Bh at h;simp only[Bool.and_eq_true]at h;have key:∀l:List (List UInt8),l.all nameB=true→(FY l).length≤18*l.length:=by
  intro l
  induction l with
  |nil=>intro _;simp[FY,Lib.join]
  |cons a l ih=>
   intro hl;rw[List.all_cons,Bool.and_eq_true]at hl;have h1:=EO hl.1;cases l with
   |nil=>rw[La];simp;omega
   |cons b l=>
    have h2:=ih hl.2;rw[MI];simp only[List.length_append,List.length_cons,List.length_nil]at h2⊢;omega
 have:=key _ h.2;omega
theorem NU {α:Type} {K:List α} {k:Nat} {a:α} (h:K[k]?=some a):K.drop k=a::K.drop (k+1):=by
 obtain⟨hlt,rfl⟩:=List.getElem?_eq_some_iff.1 h;exact List.drop_eq_getElem_cons hlt
set_option maxRecDepth 100000 in
set_option maxHeartbeats 16000000 in
theorem QCH {w:World} {B:Nat} {v:Pv} {P:Prg} (h:CP w B v P) (hs:IL P) (ht:Tabs w) (hl:(Gv P).length≤900000000):Calls Tryz.prog 18 #[DU v] w (CE (Ek P) w):=by
 obtain⟨A1,n1,m1,A2,n2,m2,A3,n3,m3,A4,n4,m4,A5,n5,m5,A6,n6,m6,rfl⟩:=h.forms;have HP:=AA h;have HS:=AA hs;have HT:=AA ht;obtain⟨q,hq⟩:∃q,BP P=q:=⟨_,rfl⟩
 have HQ:=AA hq;have HR:=AA (fun w' (hb:Below w.heap.size w w')=>Tz (HP.out.on hb) HS.out (HT.out.on hb));rw[hq]at HR;have HB0:Hid (Below w.heap.size w (w.alloc (.cells #[.slice A1 n1 m1,.slice A2 n2 m2,.slice A3 n3 m3,.slice A4 n4 m4,.slice A5 n5 m5,.slice A6 n6 m6] 27))):=AA ((Below.refl _ _).alloc (Nat.le_refl _) _);have HX:=AA (I0 w (.slice A1 n1 m1) (.slice A2 n2 m2) (.slice A3 n3 m3) (.slice A4 n4 m4) (.slice A5 n5 m5) (.slice A6 n6 m6));have HRC:=AA (HR.out _ HB0.out);clear h hs ht hq HR;unfold DU at HRC⊢;go_enter Tryz.func18,Tryz.ntmps18;go_wp2_with fail
 refine HRC.out.mono ?_;rintro e w1 ⟨rfl,hb⟩;replace HX:=AA (HX.out.on hb);replace HB0:=AA (AC HB0.out hb);clear hb HRC;cases q with
 |false=>
  go_wp2_with fail
  go_ret;exact Bv rfl (by unfold Ek;rw[HQ.out];rfl) HB0.out
 |true=>
  have HE:Hid (Ek P=Gv P):=AA (OG HQ.out);have hqq:=HQ.out;unfold BP at hqq;simp only[Bool.and_eq_true,decide_eq_true_eq]at hqq;obtain⟨⟨⟨⟨⟨⟨q1,q2⟩,q3⟩,q4⟩,q5⟩,q6⟩,q7⟩:=hqq;have HQ1:=AA q1;have HQ2:=AA q2;have HQ3:=AA q3;have HQ4:=AA q4;have HQ5:=AA q5;have HQ6:=AA q6;clear q1 q2 q3 q4 q5 q6 q7;obtain⟨K1,hK1,hm1⟩:=HP.out.lines;obtain⟨K4,hK4,hm4⟩:=HP.out.threads;obtain⟨K5,hK5,hm5⟩:=HP.out.recs;obtain⟨K6,hK6,hm6⟩:=HP.out.claims;have e1:n1=K1.length:=by obtain⟨A,c,hv,_⟩:=hK1.reads;simp only[Value.slice.injEq]at hv;exact hv.2.1
  have e4:n4=K4.length:=by obtain⟨A,c,hv,_⟩:=hK4.reads;simp only[Value.slice.injEq]at hv;exact hv.2.1
  have e5:n5=K5.length:=by obtain⟨A,c,hv,_⟩:=hK5.reads;simp only[Value.slice.injEq]at hv;exact hv.2.1
  have e6:n6=K6.length:=by obtain⟨A,c,hv,_⟩:=hK6.reads;simp only[Value.slice.injEq]at hv;exact hv.2.1
  subst e1 e4 e5 e6;have HK1:=AA hK1;have HK4:=AA hK4;have HK5:=AA hK5;have HK6:=AA hK6;have h1l:K1.length≤10000:=by have:=HS.out.nl;rw[←hm1,List.length_map]at this;exact this
  have h4l:K4.length≤10000:=by have:=HS.out.nt;rw[←hm4,List.length_map]at this;exact this
  have h5l:K5.length≤10000:=by have:=HS.out.nr;rw[←hm5,List.length_map]at this;exact this
  have h6l:K6.length≤10000:=by have:=HS.out.nc;rw[←hm6,List.length_map]at this;exact this
  obtain⟨T6,hT6⟩:∃T,K6.flatMap (fun x=>claimT x.c)=T:=⟨_,rfl⟩
  obtain⟨T5,hT5⟩:∃T,K5.flatMap (fun x=>Bf BU x.t)++T6=T:=⟨_,rfl⟩
  obtain⟨T4,hT4⟩:∃T,K4.flatMap (fun x=>threadT x.t)++T5=T:=⟨_,rfl⟩
  obtain⟨T3,hT3⟩:∃T,GF Eo (P.locks.map EY)++T4=T:=⟨_,rfl⟩
  obtain⟨T2,hT2⟩:∃T,GF I2 (P.vols.map EY)++T3=T:=⟨_,rfl⟩
  obtain⟨T,hTT⟩:∃T,K1.flatMap (fun x=>rowT FX x.l)++T2=T:=⟨_,rfl⟩
  have HTX:Hid (Gv P=T):=AA (by
   unfold Gv;rw[←hm1,←hm4,←hm5,←hm6,List.flatMap_map,List.flatMap_map,List.flatMap_map,List.flatMap_map,←XM,←XM,←hTT,←hT2,←hT3,←hT4,←hT5,←hT6])
  have HTT:Hid (T.length≤900000000):=AA (by rw[←HTX.out];exact hl);have HH1:Hid (∀x∈K1,x.l.length≤10000∧x.l≠[]∧x.l.all (Aw most32)=true):=AA (fun x hx=>by
   have hx':x.l∈P.lines:=by rw[←hm1];exact List.mem_map_of_mem hx
   have:=List.all_eq_true.1 HQ1.out _ hx';unfold EC at this;simp only[Bool.and_eq_true,Bool.not_eq_true',List.isEmpty_eq_false_iff]at this;exact⟨(HS.out.lines _ hx').1,this.1,this.2⟩)
  have HH4:Hid (∀x∈K4,Bh true x.t=true∧D9 x.t):=AA (fun x hx=>by
   have hx':x.t∈P.threads:=by rw[←hm4];exact List.mem_map_of_mem hx
   exact⟨List.all_eq_true.1 HQ5.out _ hx',HS.out.threads _ hx'⟩)
  have HH5:Hid (∀x∈K5,Bh false x.t=true∧D9 x.t):=AA (fun x hx=>by
   have hx':x.t∈P.recs:=by rw[←hm5];exact List.mem_map_of_mem hx
   exact⟨List.all_eq_true.1 HQ6.out _ hx',HS.out.recs _ hx'⟩)
  have HH6:Hid (∀x∈K6,Ef x.c=true∧Jo x.c):=AA (fun x hx=>by
   have hx':x.c∈P.claims:=by rw[←hm6];exact List.mem_map_of_mem hx
   exact⟨List.all_eq_true.1 HQ2.out _ hx',HS.out.claims _ hx'⟩)
  have hDD:w.heap.size<w1.heap.size:=(Array.getElem?_eq_some_iff.1 HX.out).1;have HB1:=(Below.refl w1.heap.size w1).alloc (Nat.le_refl _) (.cells #[.pointer none,.slice none 0 0] 93);have HI0:Hid (JF w ⟨.slice A1 K1.length m1,.slice A2 n2 m2,.slice A3 n3 m3,.slice A4 K4.length m4,.slice A5 K5.length m5,.slice A6 K6.length m6⟩ w1.heap.size [] (w1.alloc (.cells #[.pointer none,.slice none 0 0] 93))):=AA ⟨HX.out.on HB1,Lib.fresh_isBuilder 93 5 w1,AC HB0.out HB1⟩;have HTU1:=AA hTT;have HTU2:=AA hT2;have HTU3:=AA hT3;have HTU4:=AA hT4;have HTU5:=AA hT5;have HTU6:=AA hT6
  clear hK1 hK4 hK5 hK6 hm1 hm4 hm5 hm6 hT2 hT3 hT4 hT5 hT6 hTT hl HX HB0 HB1;obtain⟨-,z0, -, -, -, -, -, -, -, -, -, -, -⟩:=AI HI0.out.box;go_upto_region 4 with(fail)
  generalize w1.alloc (.cells #[.pointer none,.slice none 0 0] 93)=W0 at *;generalize w1.heap.size=D at *;clear z0;obtain⟨-,z0, -, -, -, -, -, -, -, -, -, -, -⟩:=AI HI0.out.box;go_wp2_with fail
  clear z0;go_loopw [18] (fun i wr=>∃(k:Nat) (l:List UInt8),k≤K1.length∧i=.int .i64 k∧JF w ⟨.slice A1 K1.length m1,.slice A2 n2 m2,.slice A3 n3 m3,.slice A4 K4.length m4,.slice A5 K5.length m5,.slice A6 K6.length m6⟩ D l wr∧l++((K1.drop k).flatMap (fun x=>rowT FX x.l)++T2)=T) (fun i _=>K1.length-(intOf i).toNat)
  case atStart=>exact⟨0,[],Nat.zero_le _,rfl,HI0.out,HTU1.out⟩
  case round=>
   obtain⟨k,l,hk,rfl,hi,htl⟩:=hrel;have HI:=AA hi;by_cases hlt:k<K1.length
   ·have ha:K1[k]?=some K1[k]:=List.getElem?_eq_getElem hlt;obtain⟨g1,g2,g3⟩:=HH1.out K1[k] (List.getElem_mem hlt);have hsub:=(HK1.out.on hi.low).sub K1[k] (List.getElem_mem hlt);rw[NU ha,List.flatMap_cons]at htl;generalize K1[k]=a at *;have hu:GF FX (a.l.map EY)=rowT FX a.l:=by rw[XM];unfold KN;rw[if_neg (by simpa using g2)]
    rw[←hu,List.append_assoc]at htl;have HTL:=AA htl;obtain⟨A',c',hv,_,_,hr⟩:=(HK1.out.on hi.low).reads;obtain⟨rfl,_,rfl⟩:A1=A'∧True∧m1=c':=by simpa using hv
    obtain⟨g,rfl, -,hg,x0⟩:=hr k a ha;have HSB:=AA hsub;obtain⟨Aa,ca,hva, -⟩:=hsub.reads;rw[hva]at x0 HSB;have hlt':=hlt;clear ha hr hv hi htl hsub hva hu;have HCT:=AA (MJ (HSB.out) (HT.out.on HI.out.low) g1 (MK (m:=most32) (by decide) g3));have hlw:l.length+(GF FX (a.l.map EY)).length≤900000000:=by
     have:=congrArg List.length HTL.out;simp only[List.length_append]at this;have:=HTT.out;omega
    have HLW:=AA hlw;clear hlw;go_wp2_with fail
    refine HCT.out.mono ?_;rintro e2 w2 ⟨u,rfl,hu,hb2⟩;have HI2:=AA (HI.out.call hb2);have HRT:=AA (LC FX hu (Nat.le_trans (Ou FX _) (by have:=HLW.out;omega)) (by rw[List.length_map];exact Nat.le_trans (g1) (by decide)) (by decide));obtain⟨Au,cu,rfl, -, -, -⟩:=hu.reads;rw[List.length_map]at HRT⊢;clear hu hb2 HCT;go_wp2_with fail
    refine HRT.out.mono ?_;rintro e3 w3 ⟨rfl,hb3⟩;have HI3:=AA (HI2.out.call hb3);have HW:=AA (EX D D l (GF FX (a.l.map EY)) w3 HI3.out.bld (by have:=HLW.out;omega) HI3.out.size);clear hb3 HRT;go_wp2_with fail
    refine HW.out.mono ?_;rintro e4 w4 hw;have HI4:=AA (HI3.out.write hDD hw);obtain⟨rfl, -⟩:=hw;clear HW HI2 HI3 HLW;go_wp2_with fail
    go_roundw;case rel=>exact⟨k+1,_,by omega,by go_num,HI4.out,by rw[List.append_assoc];exact HTL.out⟩
    case measure=>simp[intOf];omega
   ·have hkk:K1.drop k=[]:=List.drop_of_length_le (by omega);rw[hkk]at htl;have HTL:Hid (l++T2=T):=AA (by simpa using htl);obtain⟨-,z0,z1,z2,z3,z4,z5, -, -, -, -, -, -⟩:=AI HI.out.box;clear hkk htl hi;rw[←HTU2.out]at HTL;have HCT:=AA (MJ ((HP.out.on HI.out.low).vols) (HT.out.on HI.out.low) HS.out.nv (MK (m:=most32) (by decide) HQ3.out));have hlw:l.length+(GF I2 (P.vols.map EY)).length≤900000000:=by
     have:=congrArg List.length HTL.out;simp only[List.length_append]at this;have:=HTT.out;omega
    have HLW:=AA hlw;clear hlw;go_wp2_with fail
    refine HCT.out.mono ?_;rintro e2v w2v ⟨u,rfl,hu,hb2⟩;have HI2:=AA (HI.out.call hb2);have HRT:=AA (LC I2 hu (Nat.le_trans (Ou I2 _) (by have:=HLW.out;omega)) (by rw[List.length_map];exact Nat.le_trans (HS.out.nv) (by decide)) (by decide));obtain⟨Au,cu,rfl, -, -, -⟩:=hu.reads;rw[List.length_map]at HRT⊢;clear hu hb2 HCT;go_wp2_with fail
    refine HRT.out.mono ?_;rintro e3v w3v ⟨rfl,hb3⟩;have HI3:=AA (HI2.out.call hb3);have HW:=AA (EX D D l (GF I2 (P.vols.map EY)) w3v HI3.out.bld (by have:=HLW.out;omega) HI3.out.size);clear hb3 HRT;go_wp2_with fail
    refine HW.out.mono ?_;rintro e4v w4v hw;have HI4v:=AA (HI3.out.write hDD hw);obtain⟨rfl, -⟩:=hw;clear HW HI2 HI3 HLW;have HTLv:=AA (show(l++GF I2 (P.vols.map EY))++T3=T by rw[List.append_assoc];exact HTL.out);generalize l++GF I2 (P.vols.map EY)=lv at *;clear HTL HI z0 z1 z2 z3 z4 z5;obtain⟨-,z0,z1,z2,z3,z4,z5, -, -, -, -, -, -⟩:=AI HI4v.out.box;rw[←HTU3.out]at HTLv;have HCT:=AA (MJ ((HP.out.on HI4v.out.low).locks) (HT.out.on HI4v.out.low) HS.out.nk (MK (m:=0) (by decide) HQ4.out));have hlw:lv.length+(GF Eo (P.locks.map EY)).length≤900000000:=by
     have:=congrArg List.length HTLv.out;simp only[List.length_append]at this;have:=HTT.out;omega
    have HLW:=AA hlw;clear hlw;go_wp2_with fail
    refine HCT.out.mono ?_;rintro e2k w2k ⟨u,rfl,hu,hb2⟩;have HI2:=AA (HI4v.out.call hb2);have HRT:=AA (LC Eo hu (Nat.le_trans (Ou Eo _) (by have:=HLW.out;omega)) (by rw[List.length_map];exact Nat.le_trans (HS.out.nk) (by decide)) (by decide));obtain⟨Au,cu,rfl, -, -, -⟩:=hu.reads;rw[List.length_map]at HRT⊢;clear hu hb2 HCT;go_wp2_with fail
    refine HRT.out.mono ?_;rintro e3k w3k ⟨rfl,hb3⟩;have HI3:=AA (HI2.out.call hb3);have HW:=AA (EX D D lv (GF Eo (P.locks.map EY)) w3k HI3.out.bld (by have:=HLW.out;omega) HI3.out.size);clear hb3 HRT;go_wp2_with fail
    refine HW.out.mono ?_;rintro e4k w4k hw;have HI4k:=AA (HI3.out.write hDD hw);obtain⟨rfl, -⟩:=hw;clear HW HI2 HI3 HLW;have HTLk:=AA (show(lv++GF Eo (P.locks.map EY))++T4=T by rw[List.append_assoc];exact HTLv.out);generalize lv++GF Eo (P.locks.map EY)=lk at *;clear HTLv HI4v z0 z1 z2 z3 z4 z5;obtain⟨-,z0,z1,z2,z3,z4,z5, -, -, -, -, -, -⟩:=AI HI4k.out.box;go_wp2_with fail
    clear z0 z1 z2 z3 z4 z5;go_loopw [40] (fun i wr=>∃(k:Nat) (l:List UInt8),k≤K4.length∧i=.int .i64 k∧JF w ⟨.slice A1 K1.length m1,.slice A2 n2 m2,.slice A3 n3 m3,.slice A4 K4.length m4,.slice A5 K5.length m5,.slice A6 K6.length m6⟩ D l wr∧l++((K4.drop k).flatMap (fun x=>threadT x.t)++T5)=T) (fun i _=>K4.length-(intOf i).toNat)
    case atStart=>exact⟨0,lk,Nat.zero_le _,rfl,HI4k.out,by rw[List.drop_zero,HTU4.out];exact HTLk.out⟩
    case round=>
     clear HTLk HI4k HI0;obtain⟨k,l,hk,rfl,hi,htl⟩:=hrel;have HI:=AA hi;by_cases hlt:k<K4.length
     ·have ha:K4[k]?=some K4[k]:=List.getElem?_eq_getElem hlt;obtain⟨g1,g2⟩:=HH4.out K4[k] (List.getElem_mem hlt);have hsub:=(HK4.out.on hi.low).sub K4[k] (List.getElem_mem hlt);rw[NU ha,List.flatMap_cons,List.append_assoc]at htl;generalize K4[k]=a at *;have HTL:=AA htl;obtain⟨A',c',hv,_,_,hr⟩:=(HK4.out.on hi.low).reads;obtain⟨rfl,_,rfl⟩:A4=A'∧True∧m4=c':=by simpa using hv
      obtain⟨g,rfl, -,hg,x0,x1,x2,x3⟩:=hr k a ha;have HBT:=AA (fun W' (hb:Below wr.heap.size wr W')=>Qi (hsub.1.on hb) (X3 hsub.2 hb) g1 (HT.out.on (AC hi.low hb)) (Nat.le_trans g2.2.2.1 (by decide)) (SB g1 g2.2.2.1));obtain⟨AR,cR,hvR, -⟩:=hsub.1.reads;obtain⟨AB,cB,hvB⟩:=hsub.2.slice;rw[hvR]at x1 HBT;rw[hvB]at x2 HBT;have HLT:Hid (DJ++[32]++a.t.name++Bf [] a.t=threadT a.t):=AA (by unfold threadT Bf;simp);have hlt':=hlt;have hlb:l.length+(threadT a.t).length≤900000000:=by
       have:=congrArg List.length HTL.out;simp only[List.length_append]at this;have:=HTT.out;omega
      have hbl:(Bf [] a.t).length≤900000000∧a.t.name.length≤900000000:=by
       have:=congrArg List.length HLT.out;simp only[List.length_append]at this;omega
      have hcat1:¬(9223372036854775807<7+a.t.name.length):=by omega
      have hcat2:¬(9223372036854775807<7+a.t.name.length+(Bf [] a.t).length):=by omega
      generalize a.t.regs.length=nR at *;generalize a.t.body.length=nB at *;generalize a.t.name=nm at *;generalize Bf [] a.t=bt at *;generalize threadT a.t=tt at *;have HA:=AA ((Below.refl wr.heap.size wr).alloc (Nat.le_refl _) (.cells #[.string ⟨nm.toArray⟩,.slice AR nR cR,.slice AB nB cB,.int .i64 a.t.pl] 41));have NA:=AA (heap_alloc_new wr (.cells #[.string ⟨nm.toArray⟩,.slice AR nR cR,.slice AB nB cB,.int .i64 a.t.pl] 41));have HLB:=AA hlb;clear ha hr hv hi htl hsub hvR hvB g1 g2 hbl hlb;go_upto_region 14 with(fail)
      generalize wr.alloc (.cells #[.string ⟨nm.toArray⟩,.slice AR nR cR,.slice AB nB cB,.int .i64 a.t.pl] 41)=Y at *;have HIY:=AA (HI.out.call HA.out);have y0:Y.cell? ⟨wr.heap.size,0,none⟩=some (.string ⟨nm.toArray⟩):=by rw[Lib.cell_of_heap NA.out];rfl
      have y1:Y.cell? ⟨wr.heap.size,1,none⟩=some (.slice AR nR cR):=by rw[Lib.cell_of_heap NA.out];rfl
      have y2:Y.cell? ⟨wr.heap.size,2,none⟩=some (.slice AB nB cB):=by rw[Lib.cell_of_heap NA.out];rfl
      have y3:Y.cell? ⟨wr.heap.size,3,none⟩=some (.int .i64 a.t.pl):=by rw[Lib.cell_of_heap NA.out];rfl
      have hltY:=(Array.getElem?_eq_some_iff.1 NA.out).1;have HBY:=AA (fun W' (hb:Below Y.heap.size Y W')=>HBT.out W' (AC HA.out hb));clear HBT HA HI x0 x1 x2 x3
      go_region_with (first
       |(go_at_call 59;refine(HBY.out _ (by first|exact Below.refl _ _|exact AD _)).mono ?_;rintro e2 w2 ⟨rfl,hb2⟩;have v0:w2.cell? ⟨wr.heap.size,0,none⟩=some (.string ⟨nm.toArray⟩):=(by rw[Lib.cell_of_heap ((hb2.block _ hltY).trans NA.out)];rfl))
       |(go_at_call 56;refine(Jc D D l tt (by rw[←HLT.out,←Cb,←Cb];rfl) (by first|exact(HIY.out.call hb2).bld|exact(HIY.out.call (AC (AD _) hb2)).bld|exact(HIY.out.call (AC hb2 (AD _))).bld|exact(HIY.out.call (AC (AC (AD _) hb2) (AD _))).bld) (by have:=HLB.out;omega) (by first|exact(HIY.out.call hb2).size|exact(HIY.out.call (AC (AD _) hb2)).size|exact(HIY.out.call (AC hb2 (AD _))).size|exact(HIY.out.call (AC (AC (AD _) hb2) (AD _))).size)).mono ?_;rintro e4 w4 ⟨rfl,hw1,hw2,hw3⟩))
      all_goals
       have HI4:=AA (JF.write (e:=.returned (.tuple #[.int .i64 tt.length,.nilIface])) (n:=tt.length) (by first|exact HIY.out.call hb2|exact HIY.out.call (AC (AD _) hb2)|exact HIY.out.call (AC hb2 (AD _))|exact HIY.out.call (AC (AC (AD _) hb2) (AD _))) hDD ⟨rfl,hw1,hw2,hw3⟩);clear hw1 hw2 hw3 hb2 v0 y0 y1 y2 y3 HIY HBY;go_wp2_with fail
       go_roundw;case rel=>exact⟨k+1,_,by omega,by go_num,by first|exact HI4.out|exact HI4.out.call (AD _),by rw[List.append_assoc];exact HTL.out⟩
       case measure=>simp[intOf];omega
     ·have hkk:K4.drop k=[]:=List.drop_of_length_le (by omega);rw[hkk]at htl;have HTL:Hid (l++T5=T):=AA (by simpa using htl);obtain⟨-,z0,z1,z2,z3,z4,z5, -, -, -, -, -, -⟩:=AI HI.out.box;clear hkk htl hi;go_wp2_with fail
      clear z0 z1 z2 z3 z4 z5;go_loopw [55] (fun i wr=>∃(k:Nat) (l:List UInt8),k≤K5.length∧i=.int .i64 k∧JF w ⟨.slice A1 K1.length m1,.slice A2 n2 m2,.slice A3 n3 m3,.slice A4 K4.length m4,.slice A5 K5.length m5,.slice A6 K6.length m6⟩ D l wr∧l++((K5.drop k).flatMap (fun x=>Bf BU x.t)++T6)=T) (fun i _=>K5.length-(intOf i).toNat)
      case atStart=>exact⟨0,l,Nat.zero_le _,rfl,HI.out,by rw[List.drop_zero,HTU5.out];exact HTL.out⟩
      case round=>
       clear HTL HI;obtain⟨k,l,hk,rfl,hi,htl⟩:=hrel;have HI:=AA hi;by_cases hlt:k<K5.length
       ·have ha:K5[k]?=some K5[k]:=List.getElem?_eq_getElem hlt;obtain⟨g1,g2⟩:=HH5.out K5[k] (List.getElem_mem hlt);have hsub:=(HK5.out.on hi.low).sub K5[k] (List.getElem_mem hlt);rw[NU ha,List.flatMap_cons,List.append_assoc]at htl;generalize K5[k]=a at *;have HTL:=AA htl;obtain⟨A',c',hv,_,_,hr⟩:=(HK5.out.on hi.low).reads;obtain⟨rfl,_,rfl⟩:A5=A'∧True∧m5=c':=by simpa using hv
        obtain⟨g,rfl, -,hg,x0,x1,x2,x3⟩:=hr k a ha;obtain⟨AR,cR,hvR, -⟩:=hsub.1.reads;obtain⟨AB,cB,hvB⟩:=hsub.2.slice;have hA:=(Below.refl wr.heap.size wr).alloc (Nat.le_refl _) (.cells #[.string ⟨a.t.name.toArray⟩,a.vR,a.vB,.int .i64 a.t.pl] 41);have HBT:=AA (Qi (hsub.1.on hA) (X3 hsub.2 hA) g1 (HT.out.on (AC hi.low hA)) (Nat.le_trans g2.2.2.1 (by decide)) (SB g1 g2.2.2.1));have HIY:=AA (hi.call hA);rw[hvR]at x1 HBT HIY;rw[hvB]at x2 HBT HIY;have HLT:Hid (BU++Bf [] a.t=Bf BU a.t):=AA (by unfold Bf;simp);have hlt':=hlt;have hlb:l.length+(Bf BU a.t).length≤900000000:=by
         have:=congrArg List.length HTL.out;simp only[List.length_append]at this;have:=HTT.out;omega
        have hbl:(Bf [] a.t).length≤900000000:=by
         have:=congrArg List.length HLT.out;simp only[List.length_append]at this;omega
        have hcat1:¬(9223372036854775807<7+(Bf [] a.t).length):=by omega
        generalize Bf BU a.t=tt at *;generalize a.t.regs.length=nR at *;generalize a.t.body.length=nB at *;generalize a.t.name=nm at *;generalize Bf [] a.t=bt at *;have HLB:=AA hlb;clear ha hr hv hi htl hsub hvR hvB g1 g2 hbl hlb hA;go_wp2_with fail
        refine HBT.out.mono ?_;rintro e2 w2 ⟨rfl,hb2⟩;have HI2:=AA (HIY.out.call hb2);clear hb2 HIY HBT;go_wp2_with fail
        refine(Jc D D l tt (by rw[←HLT.out,←Cb];rfl) HI2.out.bld (by have:=HLB.out;omega) HI2.out.size).mono ?_;rintro e4 w4 hw;have HI4:=AA (HI2.out.write hDD hw);obtain⟨rfl, -⟩:=hw;clear HI2;go_wp2_with fail
        go_roundw;case rel=>exact⟨k+1,_,by omega,by go_num,HI4.out,by rw[List.append_assoc];exact HTL.out⟩
        case measure=>simp[intOf];omega
       ·have hkk:K5.drop k=[]:=List.drop_of_length_le (by omega);rw[hkk]at htl;have HTL:Hid (l++T6=T):=AA (by simpa using htl);obtain⟨-,z0,z1,z2,z3,z4,z5, -, -, -, -, -, -⟩:=AI HI.out.box;clear hkk htl hi;go_wp2_with fail
        clear z0 z1 z2 z3 z4 z5;go_loopw [67] (fun i wr=>∃(k:Nat) (l:List UInt8),k≤K6.length∧i=.int .i64 k∧JF w ⟨.slice A1 K1.length m1,.slice A2 n2 m2,.slice A3 n3 m3,.slice A4 K4.length m4,.slice A5 K5.length m5,.slice A6 K6.length m6⟩ D l wr∧l++((K6.drop k).flatMap (fun x=>claimT x.c))=T) (fun i _=>K6.length-(intOf i).toNat)
        case atStart=>exact⟨0,l,Nat.zero_le _,rfl,HI.out,by rw[List.drop_zero,HTU6.out];exact HTL.out⟩
        case round=>
         clear HTL HI;obtain⟨k,l,hk,rfl,hi,htl⟩:=hrel;have HI:=AA hi;by_cases hlt:k<K6.length
         ·have ha:K6[k]?=some K6[k]:=List.getElem?_eq_getElem hlt;obtain⟨g1,g2⟩:=HH6.out K6[k] (List.getElem_mem hlt);have hsub:=(HK6.out.on hi.low).sub K6[k] (List.getElem_mem hlt);rw[NU ha,List.flatMap_cons]at htl;generalize K6[k]=a at *;have hu:GF CG [Bi a.c.e]=claimT a.c:=by unfold GF claimT;rw[La];rfl
          rw[←hu]at htl;have HTL:=AA htl;obtain⟨A',c',hv,_,_,hr⟩:=(HK6.out.on hi.low).reads;obtain⟨rfl,_,rfl⟩:A6=A'∧True∧m6=c':=by simpa using hv
          obtain⟨g,rfl, -,hg,x0,x1⟩:=hr k a ha;have hA:=(Below.refl wr.heap.size wr).alloc (Nat.le_refl _) (.cells #[a.vE,.int .i64 a.c.pl] 50);have HSH:=AA (PO a.vE a.c.e _ (hsub.rd.on hA) g2.2 g2.1 (HT.out.on (AC hi.low hA)));have HIY:=AA (hi.call hA);obtain⟨AE,cE,hvE, -, -, -⟩:=hsub.rd;rw[hvE]at x0 HSH HIY;have hlw:l.length+(GF CG [Bi a.c.e]).length≤900000000:=by
           have:=congrArg List.length HTL.out;simp only[List.length_append]at this;have:=HTT.out;omega
          have HJL:Hid ((FY [Bi a.c.e]).length≤1000000000):=AA (Nat.le_trans (Ou CG _) (by omega));have HLW:=AA hlw;have hlt':=hlt;generalize a.c.e.length=nE at *;generalize Bi a.c.e=sh at *;clear ha hr hv hi htl hsub g1 g2 hlw hA hvE hu;go_wp2_with fail
          refine HSH.out.mono ?_;rintro e2 w2 ⟨rfl,hb2⟩;have hA2:=(Below.refl w2.heap.size w2).alloc (Nat.le_refl _) (.cells #[.string ⟨sh.toArray⟩] 9);have HI2:=AA ((HIY.out.call hb2).call hA2);have HRT:=AA (LC CG (ts:=[sh]) (B:=0) (QD5 w2 sh) HJL.out (by simp) (by decide));clear hb2 HIY HSH hA2;go_wp2_with fail
          refine HRT.out.mono ?_;rintro e3 w3 ⟨rfl,hb3⟩;have HI3:=AA (HI2.out.call hb3);have HW:=AA (EX D D l (GF CG [sh]) w3 HI3.out.bld (by have:=HLW.out;omega) HI3.out.size);clear hb3 HRT HI2;go_wp2_with fail
          refine HW.out.mono ?_;rintro e4 w4 hw;have HI4:=AA (HI3.out.write hDD hw);obtain⟨rfl, -⟩:=hw;clear HI3 HW;go_wp2_with fail
          go_roundw;case rel=>exact⟨k+1,_,by omega,by go_num,HI4.out,by rw[List.append_assoc];exact HTL.out⟩
          case measure=>simp[intOf];omega
         ·have hkk:K6.drop k=[]:=List.drop_of_length_le (by omega);rw[hkk]at htl;have HTL:Hid (T=l):=AA (by rw[←htl];simp);clear hkk htl hi;go_wp2_with fail
          refine(Tryz.Builder_String_any D D l _ HI.out.bld HI.out.size).mono ?_;rintro e9 w9 ⟨rfl,hb9⟩;have HB9:=AA (HI.out.low.trans (hb9.mono (by omega)));clear hb9;go_wp2_with fail
          go_ret;exact Bv rfl (by rw[HE.out,HTX.out,HTL.out]) HB9.out
theorem QCM:(Tryz.prog.info? 41).map (fun i=>(i.zero,i.size,i.bytes))=some (some (.agg #[.string ⟨#[]⟩,.slice none 0 0,.slice none 0 0,.int .i64 0]),4,72):=by kernel_rfl
theorem QD9 {wa w5:World} {B:Nat} {v v5:Value} {K:List Tv} {x:Tv} (h:DY wa B v K) (hx:C9 wa B x.vR x.t.regs∧Fh wa B x.vB x.t.body) (hg:wa.grownBy w5 v.ownBlock) (hr:w5.ownsRow B 41 4 v5 (K.length+1) (K.flatMap EQ++EQ x)):DY w5 B v5 (K++[x]):=by
 have hA:Av (fun q=>v.ownBlock=some q) wa B [9,44,46]:=fun q cs T hB hh hT hP=>by
  obtain⟨_,cs',h'⟩:=AM h.row q hP;rw[h']at hh;simp at hh;rw[←hh.2]at hT
  revert hT
  decide
 have hk:AG (fun q=>v.ownBlock=some q) wa w5:=AG.grown hg;refine⟨by rw[List.length_append,List.flatMap_append];simpa using hr,fun y hy=>?_⟩;rcases List.mem_append.1 hy with hy|hy
 ·exact⟨(h.sub y hy).1.keepT hk (hA.sub (by simp)),(h.sub y hy).2.keepT hk (hA.sub (by simp))⟩
 ·simp at hy;subst hy;exact⟨hx.1.keepT hk (hA.sub (by simp)),hx.2.keepT hk (hA.sub (by simp))⟩
def Ia (t:Thr):Prop:=t.regs.length≤10000∧t.body.length≤10000∧∀y∈t.body,y.e.length≤10000∧y.f.length≤10000
set_option maxRecDepth 100000 in
set_option maxHeartbeats 8000000 in
theorem QFO {K:List Tv} {v:Value} {w:World} {B:Nat} (h:DY w B v K) (hl:K.length≤10000) (hs:∀x∈K,Ia x.t):
  Calls Tryz.prog 38 #[v,.func (.func 39) #[] #[]] w (fun e w'=>∃u,e=.returned u∧FT w' w.heap.size u (K.map (fun x=>Br x.t))∧Below w.heap.size w w'):=by
 obtain⟨i0,hi0,hz0,hz1,hz2⟩:=info_parts QCM;have HZ:=AA (show Tryz.prog.info? 41=some i0∧i0.zero=some (.agg #[.string ⟨#[]⟩,.slice none 0 0,.slice none 0 0,.int .i64 0])∧i0.size=4∧i0.bytes=72 from⟨hi0,hz0,hz1,hz2⟩);have HO:=AA h;have HS:=AA hs;obtain⟨A,c,rfl,hc,hm1,hr1⟩:=h.reads;clear hi0 hz0 hz1 hz2 hr1 h hs;go_enter Tryz.func38,Tryz.ntmps38;go_wp2_with fail
 go_loopw [5,10] (fun all i wr=>∃(k:Nat) (K':List Tv),k≤K.length∧i=.int .i64 k∧Below w.heap.size w wr∧DY wr w.heap.size all K'∧K'.map (·.t)=(K.take k).map (fun x=>Br x.t)) (fun _ i _=>K.length-(intOf i).toNat)
 case atStart=>exact⟨0,[],Nat.zero_le _,rfl,Below.refl _ _,⟨World.ownsRow_nil _ _ _ _,fun x h=>by cases h⟩,rfl⟩
 case round=>
  obtain⟨k,acc,hk,rfl,hbel,hacc,hmap⟩:=hrel;have HB:=AA hbel;have HA:=AA hacc;have hsz:=hbel.size;by_cases hlt:k<K.length
  ·have ha:K[k]?=some K[k]:=List.getElem?_eq_getElem hlt;have hin:=List.getElem_mem hlt;generalize K[k]=a at *;have HT:Hid ((acc.map (·.t))++[Br a.t]=(K.take (k+1)).map (fun x=>Br x.t)):=AA (by rw[List.take_add_one,ha,List.map_append,hmap];rfl);have HN:Hid (acc.length=k):=AA (by have:=congrArg List.length hmap;simp at this;omega);have hA:=(Below.refl wr.heap.size wr).alloc (Nat.le_refl _) (.cells #[.string ⟨a.t.name.toArray⟩,a.vR,a.vB,.int .i64 a.t.pl] 41);have hsub:=(HO.out.on hbel).sub a hin
   have HC:=AA (QCL a (hsub.1.on hA) (hsub.2.keepT (AG.of (P:=fun _=>False) hA) Av.none) (HS.out a hin).1 (HS.out a hin).2.1 (HS.out a hin).2.2);have HAL:=AA hA;obtain⟨A2,c2,hv,_,_,hr⟩:=(HO.out.on hbel).reads;obtain⟨rfl,_,rfl⟩:A=A2∧True∧c=c2:=by simpa using hv
   obtain⟨g,rfl, -,hg,x0,x1,x2,x3⟩:=hr k a ha;obtain⟨AE,cE,eE, -, -, -⟩:=hsub.1.reads;obtain⟨AF,cF,eF⟩:=hsub.2.slice;rw[eE]at x1 HC HAL;rw[eF]at x2 HC HAL;obtain⟨A3,c3,rfl, -, -, -⟩:=hacc.reads;clear ha hr hv hbel hacc hmap hin eE eF hA hsub;go_wp2_with fail
   refine HC.out.mono ?_;rintro e w1 ⟨u1,u2,rfl,hu1,hu2,hb⟩;have HB1:=AA ((AC HB.out HAL.out).trans (hb.mono (AC HB.out HAL.out).size));have hb2:=AC HAL.out hb;have HA1:=AA (HA.out.on hb2);have hws:=(AC HB.out HAL.out).size;have HU1:=AA (hu1.base (B':=w.heap.size) hws);have HU2:=AA (hu2.base (B':=w.heap.size) hws);have hsz1:=HB1.out.size;obtain⟨A1,n1,c1,rfl⟩:∃A n c,u1=.slice A n c:=by
    obtain⟨A,c,hv,_⟩:=AX hu1;exact⟨A,_,c,hv⟩
   obtain⟨A2,n2,c2,rfl⟩:∃A n c,u2=.slice A n c:=by
    obtain⟨A,c,hv⟩:=hu2.slice;exact⟨A,_,c,hv⟩
   clear hb hb2 hu1 hu2 hws;go_wp2_with (at_builtin;refine wpList_append_own _ rfl (.tmp 14) (.tmp 18) 24 rfl w.heap.size 41 i0 (.agg #[.string ⟨#[]⟩,.slice none 0 0,.slice none 0 0,.int .i64 0]) 4 72 Tryz.underlying24 HZ.out.1 HZ.out.2.1 HZ.out.2.2.1 HZ.out.2.2.2 rfl (by decide) _ acc.length (acc.flatMap EQ) rfl ?dO ⟨w1.heap.size,0,none⟩ 1 1 [.string ⟨a.t.name.toArray⟩,.slice A1 n1 c1,.slice A2 n2 c2,.int .i64 0] (by rfl) (by rfl) ?d1 ?d2 ?d3 ?d4 ?d5 ?_)
   case dO=>exact(HA1.out.on ((Below.refl w1.heap.size w1).alloc (Nat.le_refl _) _)).row
   case d1=>exact World.news_of_block (cs:=#[.string ⟨a.t.name.toArray⟩,.slice A1 n1 c1,.slice A2 n2 c2,.int .i64 0]) (alloc_at rfl)
   case d2=>intro y hy;simp at hy;rcases hy with rfl|rfl|rfl|rfl<;>rfl
   case d3=>rw[HN.out];unfold maxLen;omega
   case d4=>rw[HN.out];omega
   case d5=>simp;omega
   intro v5 w5 hown5 hgrow5 _;have HB5:Hid (Below w.heap.size w w5):=AA ((HB1.out.alloc hsz1 _).grown hgrow5 (by simp;omega) (fun q hq=>(AM HA1.out.row q hq).1));have HA5:Hid (DY w5 w.heap.size v5 (acc++[⟨Br a.t,.slice A1 n1 c1,.slice A2 n2 c2⟩])):=AA (QD9 (x:=⟨Br a.t,.slice A1 n1 c1,.slice A2 n2 c2⟩) (HA1.out.on ((Below.refl w1.heap.size w1).alloc (Nat.le_refl _) _)) ⟨HU1.out.on ((Below.refl w1.heap.size w1).alloc (Nat.le_refl _) _),HU2.out.keepT (AG.of (P:=fun _=>False) ((Below.refl w1.heap.size w1).alloc (Nat.le_refl _) _)) Av.none⟩ hgrow5 hown5);obtain⟨A5,n5,c5,rfl⟩:∃A n c,v5=.slice A n c:=by
    obtain⟨A,c,hv,_⟩:=AX hown5;exact⟨A,_,c,hv⟩
   clear hown5 hgrow5;go_wp2_with fail
   go_roundw;case rel=>exact⟨k+1,_,by omega,by go_num,HB5.out,HA5.out,by rw[←HT.out,List.map_append];rfl⟩
   case measure=>simp[intOf];omega
  ·have hkk:K.take k=K:=List.take_of_length_le (by omega);rw[hkk]at hmap;have HM:=AA hmap;clear hbel hacc hmap hkk;go_wp2_with fail
   go_ret;exact⟨_,rfl,⟨acc,HA.out,HM.out⟩,HB.out⟩
theorem SC {M:List Thr} {v:Value} {w:World} {B:Nat} (h:FT w B v M) (hl:M.length≤10000) (hs:∀x∈M,Ia x):
  Calls Tryz.prog 38 #[v,.func (.func 39) #[] #[]] w (fun e w'=>∃u,e=.returned u∧FT w' w.heap.size u (M.map Br)∧Below w.heap.size w w'):=by
 obtain⟨K,hK,rfl⟩:=h;have:=QFO hK (by rw[List.length_map]at hl;exact hl) (fun x hx=>hs _ (List.mem_map_of_mem hx));rw[List.map_map];exact this
structure Lc (p:Prg):Prop where
 nl:p.lines.length≤10000
 lines:∀l∈p.lines,l.length≤10000
 nv:p.vols.length≤10000
 nk:p.locks.length≤10000
 nt:p.threads.length≤10000
 threads:∀t∈p.threads,Ia t
 nr:p.recs.length≤10000
 recs:∀t∈p.recs,Ia t
 nc:p.claims.length≤10000
 claims:∀c∈p.claims,c.e.length≤10000
theorem NV {w:World} {B T m n:Nat} {v:Value} {xs:List Value} (h:w.ownsRow B T m v n xs):∃A n c,v=.slice A n c:=by
 obtain⟨A,c,hv,_⟩:=AX h;exact⟨A,_,c,hv⟩
theorem Is.form {w:World} {B:Nat} {v:Value} {l:List (List Cel)} (h:Is w B v l):∃A n c,v=.slice A n c:=by obtain⟨K,hK,_⟩:=h;exact NV hK.row
theorem CX.form {w:World} {B:Nat} {v:Value} {l:List Cel} (h:CX w B v l):∃A n c,v=.slice A n c:=NV h
theorem FT.form {w:World} {B:Nat} {v:Value} {l:List Thr} (h:FT w B v l):∃A n c,v=.slice A n c:=by obtain⟨K,hK,_⟩:=h;exact NV hK.row
theorem It.form {w:World} {B:Nat} {v:Value} {l:List Clm} (h:It w B v l):∃A n c,v=.slice A n c:=by obtain⟨K,hK,_⟩:=h;exact NV hK.row
theorem QCQ {W:World} {b:Nat} {A1 A2 A3 A4 A5 A6:Option Addr} {n1 n2 n3 n4 n5 n6 m1 m2 m3 m4 m5 m6:Nat} (h:W.heap[b]?=some (.cells #[.slice A1 n1 m1,.slice A2 n2 m2,.slice A3 n3 m3,.slice A4 n4 m4,.slice A5 n5 m5,.slice A6 n6 m6] 27 (0,0))):
  W.cell? ⟨b,0,none⟩=some (.slice A1 n1 m1)∧W.cell? ⟨b,1,none⟩=some (.slice A2 n2 m2)∧W.cell? ⟨b,2,none⟩=some (.slice A3 n3 m3)∧W.cell? ⟨b,3,none⟩=some (.slice A4 n4 m4)∧W.cell? ⟨b,4,none⟩=some (.slice A5 n5 m5)∧W.cell? ⟨b,5,none⟩=some (.slice A6 n6 m6):=
 ⟨by rw[Lib.cell_of_heap h];rfl,by rw[Lib.cell_of_heap h];rfl,by rw[Lib.cell_of_heap h];rfl,by rw[Lib.cell_of_heap h];rfl,by rw[Lib.cell_of_heap h];rfl,by rw[Lib.cell_of_heap h];rfl⟩
theorem QEE {W:World} {b d:Nat} {A1 A2 A3 A4 A5 A6:Option Addr} {n1 n2 n3 n4 n5 n6 m1 m2 m3 m4 m5 m6:Nat} {u0 u1 u2 u3 u4 u5:Value} (h:W.heap[b]?=some (.cells #[.slice A1 n1 m1,.slice A2 n2 m2,.slice A3 n3 m3,.slice A4 n4 m4,.slice A5 n5 m5,.slice A6 n6 m6] 27 (0,0))) (hne:b≠d):
  ((((((W.setCell ⟨d,0,none⟩ u0).setCell ⟨d,1,none⟩ u1).setCell ⟨d,2,none⟩ u2).setCell ⟨d,3,none⟩ u3).setCell ⟨d,4,none⟩ u4).setCell ⟨d,5,none⟩ u5).cell? ⟨b,0,none⟩=some (.slice A1 n1 m1)∧((((((W.setCell ⟨d,0,none⟩ u0).setCell ⟨d,1,none⟩ u1).setCell ⟨d,2,none⟩ u2).setCell ⟨d,3,none⟩ u3).setCell ⟨d,4,none⟩ u4).setCell ⟨d,5,none⟩ u5).cell? ⟨b,1,none⟩=some (.slice A2 n2 m2)∧((((((W.setCell ⟨d,0,none⟩ u0).setCell ⟨d,1,none⟩ u1).setCell ⟨d,2,none⟩ u2).setCell ⟨d,3,none⟩ u3).setCell ⟨d,4,none⟩ u4).setCell ⟨d,5,none⟩ u5).cell? ⟨b,2,none⟩=some (.slice A3 n3 m3)∧((((((W.setCell ⟨d,0,none⟩ u0).setCell ⟨d,1,none⟩ u1).setCell ⟨d,2,none⟩ u2).setCell ⟨d,3,none⟩ u3).setCell ⟨d,4,none⟩ u4).setCell ⟨d,5,none⟩ u5).cell? ⟨b,3,none⟩=some (.slice A4 n4 m4)∧((((((W.setCell ⟨d,0,none⟩ u0).setCell ⟨d,1,none⟩ u1).setCell ⟨d,2,none⟩ u2).setCell ⟨d,3,none⟩ u3).setCell ⟨d,4,none⟩ u4).setCell ⟨d,5,none⟩ u5).cell? ⟨b,4,none⟩=some (.slice A5 n5 m5)∧((((((W.setCell ⟨d,0,none⟩ u0).setCell ⟨d,1,none⟩ u1).setCell ⟨d,2,none⟩ u2).setCell ⟨d,3,none⟩ u3).setCell ⟨d,4,none⟩ u4).setCell ⟨d,5,none⟩ u5).cell? ⟨b,5,none⟩=some (.slice A6 n6 m6):=
 QCQ (CZ (CZ (CZ (CZ (CZ (CZ h hne) hne) hne) hne) hne) hne)
theorem QEF {w:World} {d T:Nat} {a0 a1 a2 a3 a4 a5:Value} (h:w.heap[d]?=some (.cells #[a0,a1,a2,a3,a4,a5] T (0,0))) (u0 u1 u2 u3 u4 u5:Value):
  ((((((w.setCell ⟨d,0,none⟩ u0).setCell ⟨d,1,none⟩ u1).setCell ⟨d,2,none⟩ u2).setCell ⟨d,3,none⟩ u3).setCell ⟨d,4,none⟩ u4).setCell ⟨d,5,none⟩ u5).heap[d]?=some (.cells #[u0,u1,u2,u3,u4,u5] T (0,0)):=by
 have h0:(w.setCell ⟨d,0,none⟩ u0).heap[d]?=some (.cells #[u0,a1,a2,a3,a4,a5] T (0,0)):=As h;have h1:((w.setCell ⟨d,0,none⟩ u0).setCell ⟨d,1,none⟩ u1).heap[d]?=some (.cells #[u0,u1,a2,a3,a4,a5] T (0,0)):=As h0;have h2:(((w.setCell ⟨d,0,none⟩ u0).setCell ⟨d,1,none⟩ u1).setCell ⟨d,2,none⟩ u2).heap[d]?=some (.cells #[u0,u1,u2,a3,a4,a5] T (0,0)):=As h1;have h3:((((w.setCell ⟨d,0,none⟩ u0).setCell ⟨d,1,none⟩ u1).setCell ⟨d,2,none⟩ u2).setCell ⟨d,3,none⟩ u3).heap[d]?=some (.cells #[u0,u1,u2,u3,a4,a5] T (0,0)):=As h2
 have h4:(((((w.setCell ⟨d,0,none⟩ u0).setCell ⟨d,1,none⟩ u1).setCell ⟨d,2,none⟩ u2).setCell ⟨d,3,none⟩ u3).setCell ⟨d,4,none⟩ u4).heap[d]?=some (.cells #[u0,u1,u2,u3,u4,a5] T (0,0)):=As h3;exact As h4
theorem QCR {d:Nat} (w:World) (u0 u1 u2 u3 u4 u5:Value):AG (fun q=>q=d) w ((((((w.setCell ⟨d,0,none⟩ u0).setCell ⟨d,1,none⟩ u1).setCell ⟨d,2,none⟩ u2).setCell ⟨d,3,none⟩ u3).setCell ⟨d,4,none⟩ u4).setCell ⟨d,5,none⟩ u5):=
 BH (BH (BH (BH (BH (BH (AG.refl _ _) rfl) rfl) rfl) rfl) rfl) rfl
set_option maxRecDepth 100000 in
set_option maxHeartbeats 16000000 in
theorem BN {w:World} {B:Nat} {v:Pv} {P:Prg} (h:CP w B v P) (hs:Lc P):Calls Tryz.prog 15 #[DU v] w (fun e w'=>∃u,e=.returned (DU u)∧CP w' w.heap.size u (Cm P)∧Below w.heap.size w w'):=by
 obtain⟨A1,n1,m1,A2,n2,m2,A3,n3,m3,A4,n4,m4,A5,n5,m5,A6,n6,m6,rfl⟩:=h.forms;have HP:=AA h;have HS:=AA hs;have h0:=BC w (.cells #[.slice A1 n1 m1,.slice A2 n2 m2,.slice A3 n3 m3,.slice A4 n4 m4,.slice A5 n5 m5,.slice A6 n6 m6] 27) (.cells #[.slice none 0 0,.slice none 0 0,.slice none 0 0,.slice none 0 0,.slice none 0 0,.slice none 0 0] 27);have H0:=AA h0
 have N1:=AA (((Below.refl _ (w.alloc (.cells #[.slice A1 n1 m1,.slice A2 n2 m2,.slice A3 n3 m3,.slice A4 n4 m4,.slice A5 n5 m5,.slice A6 n6 m6] 27))).alloc (Nat.le_refl _) (.cells #[.slice none 0 0,.slice none 0 0,.slice none 0 0,.slice none 0 0,.slice none 0 0,.slice none 0 0] 27)).block w.heap.size (by simp) |>.trans (heap_alloc_new w (.cells #[.slice A1 n1 m1,.slice A2 n2 m2,.slice A3 n3 m3,.slice A4 n4 m4,.slice A5 n5 m5,.slice A6 n6 m6] 27)))
 have N2:=AA (heap_alloc2_new w (.cells #[.slice A1 n1 m1,.slice A2 n2 m2,.slice A3 n3 m3,.slice A4 n4 m4,.slice A5 n5 m5,.slice A6 n6 m6] 27) (.cells #[.slice none 0 0,.slice none 0 0,.slice none 0 0,.slice none 0 0,.slice none 0 0,.slice none 0 0] 27));clear h hs h0;unfold DU;go_enter Tryz.func15,Tryz.ntmps15;go_upto_region 1 with(fail)
 obtain⟨b,hb⟩:∃b,w.heap.size=b:=⟨_,rfl⟩
 obtain⟨d,hd⟩:∃d,b+1=d:=⟨_,rfl⟩
 have hsz:((w.alloc (.cells #[.slice A1 n1 m1,.slice A2 n2 m2,.slice A3 n3 m3,.slice A4 n4 m4,.slice A5 n5 m5,.slice A6 n6 m6] 27)).alloc (.cells #[.slice none 0 0,.slice none 0 0,.slice none 0 0,.slice none 0 0,.slice none 0 0,.slice none 0 0] 27)).heap.size=d+1:=by simp;omega
 generalize((w.alloc (.cells #[.slice A1 n1 m1,.slice A2 n2 m2,.slice A3 n3 m3,.slice A4 n4 m4,.slice A5 n5 m5,.slice A6 n6 m6] 27)).alloc (.cells #[.slice none 0 0,.slice none 0 0,.slice none 0 0,.slice none 0 0,.slice none 0 0,.slice none 0 0] 27))=X at *;rw[hb]at N1;rw[hb,hd]at N2;simp only[hb,hd];have hne:b≠d:=by omega
 have HC1:=AA (fun W' (hb:Below X.heap.size X W')=>QEB (HP.out.on (AC H0.out hb)).lines HS.out.nl HS.out.lines);have HC2:=AA (fun W' (hb:Below X.heap.size X W')=>T8 (HP.out.on (AC H0.out hb)).vols HS.out.nv);have HC3:=AA (fun W' (hb:Below X.heap.size X W')=>T8 (HP.out.on (AC H0.out hb)).locks HS.out.nk);have HC4:=AA (fun W' (hb:Below X.heap.size X W')=>SC (HP.out.on (AC H0.out hb)).threads HS.out.nt HS.out.threads);have HC5:=AA (fun W' (hb:Below X.heap.size X W')=>SC (HP.out.on (AC H0.out hb)).recs HS.out.nr HS.out.recs)
 have HC6:=AA (fun W' (hb:Below X.heap.size X W')=>QCP (HP.out.on (AC H0.out hb)).claims HS.out.nc HS.out.claims);have hltb:b<X.heap.size:=by omega
 have HX:=AA (fun W' (hb:Below X.heap.size X W')=>QCQ ((hb.block b hltb).trans N1.out));have S0:=HX.out X (Below.refl _ _);go_region_held3 (fun w'=>w'.cell? ⟨b,0,none⟩=some (.slice A1 n1 m1)∧w'.cell? ⟨b,1,none⟩=some (.slice A2 n2 m2)∧w'.cell? ⟨b,2,none⟩=some (.slice A3 n3 m3)∧w'.cell? ⟨b,3,none⟩=some (.slice A4 n4 m4)∧w'.cell? ⟨b,4,none⟩=some (.slice A5 n5 m5)∧w'.cell? ⟨b,5,none⟩=some (.slice A6 n6 m6)) (first|with_reducible assumption|exact S0)
  (first
  |(go_at_call_of 36 (Value.slice A1 n1 m1);refine(HC1.out _ (by first|exact Below.refl _ _|exact AD _)).mono ?_;rintro e1 w1 ⟨v1,rfl,o1,hb1⟩;obtain⟨D1,p1,q1,rfl⟩:=o1.form;have B1:Below X.heap.size X w1:=(by first|exact hb1|exact AC (AD _) hb1);have S1:=HX.out w1 B1)
  |(go_at_call_of 37 (Value.slice A2 n2 m2);refine(HC2.out _ (by first|exact B1|exact AC B1 (AD _))).mono ?_;rintro e2 w2 ⟨v2,rfl,o2,hb2⟩;obtain⟨D2,p2,q2,rfl⟩:=o2.form;have B2:Below X.heap.size X w2:=(by first|exact AC B1 hb2|exact AC (AC B1 (AD _)) hb2);have S2:=HX.out w2 B2)
  |(go_at_call_of 37 (Value.slice A3 n3 m3);refine(HC3.out _ (by first|exact B2|exact AC B2 (AD _))).mono ?_;rintro e3 w3 ⟨v3,rfl,o3,hb3⟩;obtain⟨D3,p3,q3,rfl⟩:=o3.form;have B3:Below X.heap.size X w3:=(by first|exact AC B2 hb3|exact AC (AC B2 (AD _)) hb3);have S3:=HX.out w3 B3)
  |(go_at_call_of 38 (Value.slice A4 n4 m4);refine(HC4.out _ (by first|exact B3|exact AC B3 (AD _))).mono ?_;rintro e4 w4 ⟨v4,rfl,o4,hb4⟩;obtain⟨D4,p4,q4,rfl⟩:=o4.form;have B4:Below X.heap.size X w4:=(by first|exact AC B3 hb4|exact AC (AC B3 (AD _)) hb4);have S4:=HX.out w4 B4)
  |(go_at_call_of 38 (Value.slice A5 n5 m5);refine(HC5.out _ (by first|exact B4|exact AC B4 (AD _))).mono ?_;rintro e5 w5 ⟨v5,rfl,o5,hb5⟩;obtain⟨D5,p5,q5,rfl⟩:=o5.form;have B5:Below X.heap.size X w5:=(by first|exact AC B4 hb5|exact AC (AC B4 (AD _)) hb5);have S5:=HX.out w5 B5)
  |(go_at_call_of 40 (Value.slice A6 n6 m6);refine(HC6.out _ (by first|exact B5|exact AC B5 (AD _))).mono ?_;rintro e6 w6 ⟨v6,rfl,o6,hb6⟩;obtain⟨D6,p6,q6,rfl⟩:=o6.form;have B6:Below X.heap.size X w6:=(by first|exact AC B5 hb6|exact AC (AC B5 (AD _)) hb6);have S6:=HX.out w6 B6;have hx6:=(B6.block b hltb).trans N1.out;have S7:=QEE (d:=d) (u0:=.slice D1 p1 q1) (u1:=.slice D2 p2 q2) (u2:=.slice D3 p3 q3) (u3:=.slice D4 p4 q4) (u4:=.slice D5 p5 q5) (u5:=.slice D6 p6 q6) hx6 hne;have hltd:d<X.heap.size:=(by omega);have hd6:=(B6.block d hltd).trans N2.out;have y0:w6.cell? ⟨d,0,none⟩=some (.slice none 0 0):=(by rw[Lib.cell_of_heap hd6];rfl);have k0:=Lib.frozen_of_heap hd6 0;have y1:w6.cell? ⟨d,1,none⟩=some (.slice none 0 0):=(by rw[Lib.cell_of_heap hd6];rfl);have k1:=Lib.frozen_of_heap hd6 1;have y2:w6.cell? ⟨d,2,none⟩=some (.slice none 0 0):=(by rw[Lib.cell_of_heap hd6];rfl);have k2:=Lib.frozen_of_heap hd6 2;have y3:w6.cell? ⟨d,3,none⟩=some (.slice none 0 0):=(by rw[Lib.cell_of_heap hd6];rfl);have k3:=Lib.frozen_of_heap hd6 3;have y4:w6.cell? ⟨d,4,none⟩=some (.slice none 0 0):=(by rw[Lib.cell_of_heap hd6];rfl);have k4:=Lib.frozen_of_heap hd6 4;have y5:w6.cell? ⟨d,5,none⟩=some (.slice none 0 0):=(by rw[Lib.cell_of_heap hd6];rfl);have k5:=Lib.frozen_of_heap hd6 5))
 have HF:=AA (QEF hd6 (.slice D1 p1 q1) (.slice D2 p2 q2) (.slice D3 p3 q3) (.slice D4 p4 q4) (.slice D5 p5 q5) (.slice D6 p6 q6));have hk:=QCR (d:=d) w6 (.slice D1 p1 q1) (.slice D2 p2 q2) (.slice D3 p3 q3) (.slice D4 p4 q4) (.slice D5 p5 q5) (.slice D6 p6 q6);have hb56:=hb6;have hb46:=AC hb5 hb6;have hb36:=AC hb4 hb46;have hb26:=AC hb3 hb36;have hb16:=AC hb2 hb26;have c1:=B1.size;have c2:=B2.size;have c3:=B3.size;have c4:=B4.size;have c5:=B5.size;have c0:=H0.out.size;have hAv:=fun(Bq:Nat) (Ts:List TypeId) (hT:(27:TypeId)∉Ts)=>LE (B:=Bq) (Ts:=Ts) hd6 hT
 have F1:=AA (((o1.on hb16).keepT hk (hAv _ _ (by decide))).base (B':=w.heap.size) (by first|omega|(simp;omega)));have F2:=AA (((o2.on hb26).keepT hk (hAv _ _ (by decide))).base (B':=w.heap.size) (by omega));have F3:=AA (((o3.on hb36).keepT hk (hAv _ _ (by decide))).base (B':=w.heap.size) (by omega));have F4:=AA (((o4.on hb46).keepT hk (hAv _ _ (by decide))).base (B':=w.heap.size) (by omega));have F5:=AA (((o5.on hb56).keepT hk (hAv _ _ (by decide))).base (B':=w.heap.size) (by omega));have F6:=AA ((o6.keepT hk (hAv _ _ (by decide))).base (B':=w.heap.size) (by omega))
 have FB:=AA ((AC H0.out B6).trans (hk.below (fun k hk h=>by omega) (AC H0.out B6).size));clear hb1 hb2 hb3 hb4 hb5 hb6 hb56 hb46 hb36 hb26 hb16 o1 o2 o3 o4 o5 o6 B1 B2 B3 B4 B5 B6 S0 S1 S2 S3 S4 S5 S6 S7 y0 y1 y2 y3 y4 y5 k0 k1 k2 k3 k4 k5 hk hAv hx6 hd6 HX HC1 HC2 HC3 HC4 HC5 HC6;go_wp2_with fail
 generalize((((((w6.setCell ⟨d,0,none⟩ (.slice D1 p1 q1)).setCell ⟨d,1,none⟩ (.slice D2 p2 q2)).setCell ⟨d,2,none⟩ (.slice D3 p3 q3)).setCell ⟨d,3,none⟩ (.slice D4 p4 q4)).setCell ⟨d,4,none⟩ (.slice D5 p5 q5)).setCell ⟨d,5,none⟩ (.slice D6 p6 q6))=V at *;have v0:V.cell? ⟨d,0,none⟩=some (.slice D1 p1 q1):=by rw[Lib.cell_of_heap HF.out];rfl
 have v1:V.cell? ⟨d,1,none⟩=some (.slice D2 p2 q2):=by rw[Lib.cell_of_heap HF.out];rfl
 have v2:V.cell? ⟨d,2,none⟩=some (.slice D3 p3 q3):=by rw[Lib.cell_of_heap HF.out];rfl
 have v3:V.cell? ⟨d,3,none⟩=some (.slice D4 p4 q4):=by rw[Lib.cell_of_heap HF.out];rfl
 have v4:V.cell? ⟨d,4,none⟩=some (.slice D5 p5 q5):=by rw[Lib.cell_of_heap HF.out];rfl
 have v5:V.cell? ⟨d,5,none⟩=some (.slice D6 p6 q6):=by rw[Lib.cell_of_heap HF.out];rfl
 refine bodyPost_ret (v:=.agg #[.slice D1 p1 q1,.slice D2 p2 q2,.slice D3 p3 q3,.slice D4 p4 q4,.slice D5 p5 q5,.slice D6 p6 q6]) (by simp[results,Tryz.results15,go_sem,v0,v1,v2,v3,v4,v5]) rfl ?_;exact⟨⟨.slice D1 p1 q1,.slice D2 p2 q2,.slice D3 p3 q3,.slice D4 p4 q4,.slice D5 p5 q5,.slice D6 p6 q6⟩,rfl,⟨F1.out,F2.out,F3.out,F4.out,F5.out,F6.out⟩,FB.out⟩
end Go.Proofs.YthfkpalfopdmhaaGreatDoor
