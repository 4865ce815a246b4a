/- Texts of the walk, packed. -/
import Derived.Test.YthfkpalfopdmhaaGreatDoorW39
import Derived.Test.YthfkpalfopdmhaaGreatDoorW29
import Derived.Test.YthfkpalfopdmhaaGreatDoorW38
import Derived.Test.YthfkpalfopdmhaaGreatDoorW20
import Derived.Test.YthfkpalfopdmhaaGreatDoorW15
import Derived.Test.YthfkpalfopdmhaaGreatDoorW34
import Derived.Test.YthfkpalfopdmhaaGreatDoorW27
import Derived.Test.YthfkpalfopdmhaaGreatDoorW00
namespace Go.Proofs.YthfkpalfopdmhaaGreatDoor
open Go.RowKit
def Dt (c:Cel):Prop:=c.name.length<=100000
def DX (t:Thr):Prop:=t.name.length<=100000/\(∀r∈t.regs,r.length<=100000)/\t.regs.length<=10000/\(∀x∈t.body,Fb x)/\t.body.length<=10000
def Jq (c:Clm):Prop:=Ej c.e/\c.e.length<=10000
structure GU (p:Prg):Prop where
 nl:p.lines.length<=10000
 lines:∀l∈p.lines,l.length<=10000/\∀c∈l,Dt c
 nv:p.vols.length<=10000
 vols:∀c∈p.vols,Dt c
 nk:p.locks.length<=10000
 locks:∀c∈p.locks,Dt c
 nt:p.threads.length<=10000
 threads:∀t∈p.threads,DX t
 nr:p.recs.length<=10000
 recs:∀t∈p.recs,DX t
 nc:p.claims.length<=10000
 claims:∀c∈p.claims,Jq c
theorem US (l:List UInt8) (w:World) (h:l.length<=100000):Calls Tryz.prog 103 #[.string ⟨l.toArray⟩] w (AK (nameB l) w):=by
 have:=name_any ⟨l.toArray⟩ w (by show l.toArray.size<=_;simpa using h)
 rwa [show(ByteArray.mk l.toArray).data.toList=l from by simp]at this
set_option maxHeartbeats 1000000 in
theorem UT (n:Int) (w:World):Calls Tryz.prog 104 #[.int .i64 n] w (AK (OX n) w):=by
 go_enter Tryz.func104,Tryz.ntmps104;go_wp2_with fail
 all_goals
  go_ret;exact⟨AH (by simp_all [OX];try omega),Below.refl _ _⟩
set_option maxRecDepth 100000 in
set_option maxHeartbeats 2000000 in
theorem Xj (c:Cel) (w:World) (h:Dt c):Calls Tryz.prog 45 #[.agg #[.string ⟨c.name.toArray⟩,.int .i64 c.n,.int .i64 c.pl]] w (AK (A9 BW c) w):=by
 obtain⟨name,n,pl⟩:=c;have HC:=AA (US name (w.alloc (.cells #[.string ⟨name.toArray⟩,.int .i64 n,.int .i64 pl] 48)) h);have HB0:Hid (Below w.heap.size w (w.alloc (.cells #[.string ⟨name.toArray⟩,.int .i64 n,.int .i64 pl] 48))):=AA ((Below.refl _ _).alloc (Nat.le_refl _) _);have x0:(w.alloc (.cells #[.string ⟨name.toArray⟩,.int .i64 n,.int .i64 pl] 48)).cell? ⟨w.heap.size,0,none⟩=some (.string ⟨name.toArray⟩):=by simp
 have hB:A9 BW ⟨name,n,pl⟩=(nameB name&&(decide (0<=n)&&(decide (n<=4294967296)&&OX pl))):=by unfold A9 BW;simp only[Bool.and_assoc]
 have HBB:=AA hB;clear h x0 hB;go_enter Tryz.func45,Tryz.ntmps45;go_wp2_with fail
 refine HC.out.mono ?_;rintro e w1 ⟨rfl,hb1⟩;have hW:w.heap.size<(w.alloc (.cells #[.string ⟨name.toArray⟩,.int .i64 n,.int .i64 pl] 48)).heap.size:=by simp
 have z1:w1.cell? ⟨w.heap.size,1,none⟩=some (.int .i64 n):=by rw[hb1.cell (p:=⟨w.heap.size,1,none⟩) hW];simp
 have z2:w1.cell? ⟨w.heap.size,2,none⟩=some (.int .i64 pl):=by rw[hb1.cell (p:=⟨w.heap.size,2,none⟩) hW];simp
 have hl1:w.heap.size<w1.heap.size:=Nat.lt_of_lt_of_le hW hb1.size;have HB1:=AA (HB0.out.trans (hb1.mono HB0.out.size));clear hb1 hW;cases h1:nameB name with
 |false=>
  have HE:Hid (A9 BW ⟨name,n,pl⟩=false):=AA (by rw[HBB.out,h1];rfl);clear h1;go_wp2_with fail
  go_ret;exact⟨AH HE.out.symm,HB1.out⟩
 |true=>
  by_cases h2:0<=n
  ·by_cases h3:n<=4294967296
   ·have HE:Hid (A9 BW ⟨name,n,pl⟩=OX pl):=AA (by rw[HBB.out,h1];simp[h2,h3]);have d2:decide (0<=n)=true:=by simp[h2]
    have d3:decide (n<=4294967296)=true:=by simp[h3]
    clear h1;go_wp2_with fail
    refine(UT pl w1).mono ?_;rintro e w2 ⟨rfl,hb2⟩;have HB2:=AA (AC HB1.out hb2);clear hb2;go_wp2_with fail
    go_ret;exact⟨AH (by rw[HE.out]),HB2.out⟩
   ·have HE:Hid (A9 BW ⟨name,n,pl⟩=false):=AA (by rw[HBB.out,h1];simp[h3]);clear h1;go_wp2_with fail
    go_ret;exact⟨AH HE.out.symm,HB1.out⟩
  ·have HE:Hid (A9 BW ⟨name,n,pl⟩=false):=AA (by rw[HBB.out,h1];simp[h2]);clear h1;go_wp2_with fail
   go_ret;exact⟨AH HE.out.symm,HB1.out⟩
theorem QEy (c:Cel):A9 0 c=(A9 BW c&&(c.n==0)):=by
 unfold A9 BW;cases nameB c.name<;>cases OX c.pl<;>simp;rw[Bool.eq_iff_iff];simp;omega
set_option maxRecDepth 100000 in
set_option maxHeartbeats 2000000 in
theorem QGJ (c:Cel) (w:World) (h:Dt c):Calls Tryz.prog 46 #[.agg #[.string ⟨c.name.toArray⟩,.int .i64 c.n,.int .i64 c.pl]] w (AK (A9 0 c) w):=by
 have HLE:=AA (QEy c);obtain⟨q,hq⟩:∃q,A9 BW c=q:=⟨_,rfl⟩
 have HC:=AA (Xj c (w.alloc (.cells #[.string ⟨c.name.toArray⟩,.int .i64 c.n,.int .i64 c.pl] 48)) h);rw[hq]at HC HLE;have HB0:Hid (Below w.heap.size w (w.alloc (.cells #[.string ⟨c.name.toArray⟩,.int .i64 c.n,.int .i64 c.pl] 48))):=AA ((Below.refl _ _).alloc (Nat.le_refl _) _);have hW:w.heap.size<(w.alloc (.cells #[.string ⟨c.name.toArray⟩,.int .i64 c.n,.int .i64 c.pl] 48)).heap.size:=by simp
 clear h hq;go_enter Tryz.func46,Tryz.ntmps46;go_wp2_with fail
 refine HC.out.mono ?_;rintro e w1 ⟨rfl,hb1⟩;have z1:w1.cell? ⟨w.heap.size,1,none⟩=some (.int .i64 c.n):=by rw[hb1.cell (p:=⟨w.heap.size,1,none⟩) hW];simp
 have hl1:w.heap.size<w1.heap.size:=Nat.lt_of_lt_of_le hW hb1.size;have HB1:=AA (HB0.out.trans (hb1.mono HB0.out.size));clear hb1 hW;cases q with
 |false=>
  go_wp2_with fail
  go_ret;exact⟨AH (by rw[HLE.out];rfl),HB1.out⟩
 |true=>
  go_wp2_with fail
  go_ret;exact⟨AH (by rw[HLE.out];simp),HB1.out⟩
theorem I9 {F:Nat} {fn:Func} {c:Code} (hf:Tryz.prog.funcs[F]?=some fn) (hname:(fn.name== "runtime.NumGoroutine")=false) (hb:fn.body=some c):Enters F:=fun a w=>enters_of hf hname hb a w
set_option maxRecDepth 100000 in
set_option maxHeartbeats 2000000 in
theorem QGK {l:List Cel} {v:Value} {w:World} {B:Nat} (h:Bw w B v l) (hl:l.length<=10000) (hs:∀c∈l,Dt c):Calls Tryz.prog 43 #[v] w (AK (EJ l) w):=by
 have HE:=AA (UR (I9 Tryz.func45 (by kernel_rfl) rfl) (A9 BW) h (by omega) (fun x hx w' _=>Xj x w' (hs x hx)));obtain⟨A,c,rfl, -, -, -⟩:=h.reads;clear h hs;cases l with
 |nil=>
  go_enter Tryz.func43,Tryz.ntmps43;go_wp2_with fail
  go_ret;exact⟨rfl,Below.refl _ _⟩
 |cons a l=>
  obtain⟨n,hn⟩:∃n,(a::l).length=n:=⟨_,rfl⟩
  have hn0:(0:Int)<(n:Int):=by rw[<-hn];simp
  rw[hn]at HE⊢;have HQ:Hid (EJ (a::l)=(a::l).all (fun x=>A9 BW x)):=AA (by simp[EJ]);clear hn;go_enter Tryz.func43,Tryz.ntmps43;go_wp2_with fail
  refine HE.out.mono ?_;rintro e w1 ⟨rfl,hb⟩;have HB:=AA hb;clear hb;go_wp2_with fail
  go_ret;exact⟨AH (by rw[HQ.out];rfl),HB.out⟩
structure QEz (w:World) (b:Nat) (x0 x1 x2 x3:Value):Prop where
 lt:b<w.heap.size
 c0:w.cell? ⟨b,0,none⟩=some x0
 c1:w.cell? ⟨b,1,none⟩=some x1
 c2:w.cell? ⟨b,2,none⟩=some x2
 c3:w.cell? ⟨b,3,none⟩=some x3
theorem LO (w:World) (x0 x1 x2 x3:Value) (T:TypeId):QEz (w.alloc (.cells #[x0,x1,x2,x3] T)) w.heap.size x0 x1 x2 x3:=⟨by simp,by simp,by simp,by simp,by simp⟩
theorem QEz.on {w w':World} {b:Nat} {x0 x1 x2 x3:Value} (h:QEz w b x0 x1 x2 x3) (hb:Below w.heap.size w w'):QEz w' b x0 x1 x2 x3:=by
 obtain⟨l,c0,c1,c2,c3⟩:=h;have e:∀j,w'.cell? ⟨b,j,none⟩=w.cell? ⟨b,j,none⟩:=fun j=>hb.cell (p:=⟨b,j,none⟩) l
 exact⟨Nat.lt_of_lt_of_le l hb.size,by rw[e,c0],by rw[e,c1],by rw[e,c2],by rw[e,c3]⟩
def PD (t:Thr):Bool:=t.regs.all nameB&&(CP t.body&&OX t.pl)
theorem QCj (b:Bool) (t:Thr):Bv b t=((if b then nameB t.name else t.name.isEmpty)&&PD t):=by
 unfold Bv PD;cases t.regs.all nameB<;>cases CP t.body<;>cases OX t.pl<;>simp
set_option maxRecDepth 100000 in
set_option maxHeartbeats 4000000 in
theorem Yc {x:Tv} {w:World} {B:Nat} (hR:CS w B x.vR x.t.regs) (hB:Ec w B x.vB x.t.body) (hs:DX x.t) (ht:Tabs w):
  Calls Tryz.prog 107 #[.agg #[.string ⟨x.t.name.toArray⟩,x.vR,x.vB,.int .i64 x.t.pl]] w (AK (PD x.t) w):=by
 obtain⟨AR,cR,hvR, -, -, -⟩:=hR.reads;obtain⟨AB,cB,hvB⟩:=hB.slice;obtain⟨t,vR,vB⟩:=x;simp only at hR hB hs hvR hvB⊢;subst hvR hvB;have HBX:=AA (LO w (.string ⟨t.name.toArray⟩) (.slice AR t.regs.length cR) (.slice AB t.body.length cB) (.int .i64 t.pl) 41);have HB0:Hid (Below w.heap.size w (w.alloc (.cells #[.string ⟨t.name.toArray⟩,.slice AR t.regs.length cR,.slice AB t.body.length cB,.int .i64 t.pl] 41))):=AA ((Below.refl _ _).alloc (Nat.le_refl _) _);have HR:=AA (QEx (I9 Tryz.func103 (by kernel_rfl) rfl) nameB (hR.on HB0.out) (by have:=hs.2.2.1;omega) (fun x hx w' _=>US x w' (hs.2.1 x hx)));have HS:=AA hB
 have HSM:=AA hs;have HT:=AA ht;obtain⟨q1,hq1⟩:∃q,t.regs.all nameB=q:=⟨_,rfl⟩
 obtain⟨q2,hq2⟩:∃q,CP t.body=q:=⟨_,rfl⟩
 have HQ1:=AA hq1;have HQ2:=AA hq2;have HRQ:Hid (Calls Tryz.prog 154 #[.slice AR t.regs.length cR,.func (.func 103) #[] #[]] (w.alloc (.cells #[.string ⟨t.name.toArray⟩,.slice AR t.regs.length cR,.slice AB t.body.length cB,.int .i64 t.pl] 41)) (AK q1 (w.alloc (.cells #[.string ⟨t.name.toArray⟩,.slice AR t.regs.length cR,.slice AB t.body.length cB,.int .i64 t.pl] 41)))):=AA (by rw[<-hq1];exact HR.out);clear hR hB hs ht hq1 hq2 HR;go_enter Tryz.func107,Tryz.ntmps107;go_wp2_with fail
 obtain⟨b,hb⟩:∃b,w.heap.size=b:=⟨_,rfl⟩
 rw[hb]at HBX⊢;generalize w.alloc (.cells #[.string ⟨t.name.toArray⟩,.slice AR t.regs.length cR,.slice AB t.body.length cB,.int .i64 t.pl] 41)=W at *;refine HRQ.out.mono ?_;rintro e w1 ⟨rfl,hb1⟩;have HB1:=AA (HB0.out.trans (hb1.mono HB0.out.size));obtain⟨l1, -, -,z2,z3⟩:=HBX.out.on hb1;have HBX1:=AA (HBX.out.on hb1);clear hb1 hb;cases q1 with
 |false=>
  go_wp2_with fail
  go_ret;exact⟨AH (by unfold PD;rw[HQ1.out];rfl),HB1.out⟩
 |true=>
  have HCB:Hid (Calls Tryz.prog 155 #[.slice AB t.body.length cB] w1 (AK q2 w1)):=AA (by rw[<-HQ2.out];exact Qa _ _ w1 (HS.out.read.on HB1.out) HSM.out.2.2.2.1 (HT.out.on HB1.out));go_wp2_with fail
  refine HCB.out.mono ?_;rintro e w2 ⟨rfl,hb2⟩;have HB2:=AA (AC HB1.out hb2);obtain⟨l2, -, -, -,y3⟩:=HBX1.out.on hb2;clear hb2 z2 z3 l1;cases q2 with
  |false=>
   go_wp2_with fail
   go_ret;exact⟨AH (by unfold PD;rw[HQ1.out,HQ2.out];rfl),HB2.out⟩
  |true=>
   go_wp2_with fail
   refine(UT t.pl w2).mono ?_;rintro e w3 ⟨rfl,hb3⟩;have HB3:=AA (AC HB2.out hb3);clear hb3;go_wp2_with fail
   go_ret;exact⟨AH (by unfold PD;rw[HQ1.out,HQ2.out];rfl),HB3.out⟩
set_option maxRecDepth 100000 in
set_option maxHeartbeats 2000000 in
theorem QGY (s:List UInt8) (w:World):Calls Tryz.prog 95 #[.string ⟨s.toArray⟩] w (fun e w'=>e=.returned (.string ⟨s.toArray⟩)/\Below w.heap.size w w'):=by
 go_enter Tryz.func95,Tryz.ntmps95;go_wp2_with fail
 go_ret;exact⟨rfl,Below.refl _ _⟩
set_option maxRecDepth 100000 in
set_option maxHeartbeats 8000000 in
theorem QGZ {K:List (List UInt8)} {v:Value} {w:World} {B:Nat} (h:CS w B v K) (hl:K.length<=10000):
  Calls Tryz.prog 94 #[v,.func (.func 95) #[] #[]] w (fun e w'=>∃u,e=.returned u/\CS w' w.heap.size u K/\Below w.heap.size w w'):=by
 obtain⟨i0,hi0,hz0,hz1,hz2⟩:=info_parts PU;have HZ:=AA (show Tryz.prog.info? 9=some i0/\i0.zero=some (.string ⟨#[]⟩)/\i0.size=1/\i0.bytes=16 from⟨hi0,hz0,hz1,hz2⟩);have HO:=AA h;obtain⟨A,c,rfl,hc,hm1,hr1⟩:=h.reads;clear hi0 hz0 hz1 hz2 hr1 h;go_enter Tryz.func94,Tryz.ntmps94;go_wp2_with fail
 go_loopw [5,10] (fun all i wr=>∃k:Nat,k<=K.length/\i=.int .i64 k/\Below w.heap.size w wr/\CS wr w.heap.size all (K.take k)) (fun _ i _=>K.length-(intOf i).toNat)
 case atStart=>exact⟨0,Nat.zero_le _,rfl,Below.refl _ _,Jg _ _⟩
 case round=>
  obtain⟨k,hk,rfl,hbel,hacc⟩:=hrel;have HB:=AA hbel;have HA:=AA hacc;have hsz:=hbel.size;by_cases hlt:k<K.length
  ·have ha:K[k]?=some K[k]:=List.getElem?_eq_getElem hlt;generalize K[k]=a at *;have HT:Hid (K.take (k+1)=K.take k++[a]):=AA (by rw[List.take_add_one,ha];rfl);have HN:Hid ((K.take k).length=k):=AA (by simp;omega);obtain⟨A2,c2,hv,_,_,hr⟩:=(HO.out.on hbel).reads;obtain⟨rfl,_,rfl⟩:A=A2/\True/\c=c2:=by simpa using hv
   obtain⟨g,rfl, -,hg,x0⟩:=hr k a ha;obtain⟨A3,c3,rfl, -, -, -⟩:=hacc.reads;generalize K.take k=acc at *;clear ha hr hv hbel hacc;go_wp2_with fail
   refine(QGY a _).mono ?_;rintro e w1 ⟨rfl,hb⟩;have HB1:=AA (AC HB.out hb);have HA1:=AA (AO (P:=fun _=>False) HA.out (AG.of (hb)) (fun _ _=>id));have hsz1:=HB1.out.size;have hk1:=hlt;clear hb;go_wp2_with (at_builtin;refine wpList_append_own _ rfl (.tmp 14) (.tmp 18) 38 rfl w.heap.size 9 i0 (.string ⟨#[]⟩) 1 16 Tryz.underlying38 HZ.out.1 HZ.out.2.1 HZ.out.2.2.1 HZ.out.2.2.2 rfl (by decide) _ acc.length (acc.map strV) rfl ?dO ⟨w1.heap.size,0,none⟩ 1 1 ([strV a]) (by rfl) (by rfl) ?d1 ?d2 ?d3 ?d4 ?d5 ?_)
   case dO=>exact AO (P:=fun _=>False) HA1.out (AG.of ((Below.refl w1.heap.size w1).alloc (Nat.le_refl _) _)) (fun _ _=>id)
   case d1=>exact World.news_of_block (cs:=#[strV a]) (alloc_at rfl)
   case d2=>exact PV _
   case d3=>rw[HN.out];unfold maxLen;omega
   case d4=>rw[HN.out];omega
   case d5=>simp;omega
   intro v5 w5 hown5 hgrow5 _;have HB5:Hid (Below w.heap.size w w5):=AA ((HB1.out.alloc hsz1 _).grown hgrow5 (by simp;omega) (fun q hq=>(AI HA1.out q hq).1));have HA5:Hid (CS w5 w.heap.size v5 (acc++[a])):=AA (by
    unfold CS;rw[List.length_append];simpa using hown5)
   obtain⟨A5,n5,c5,rfl⟩:∃A n c,v5=.slice A n c:=by
    obtain⟨A,c,hv,_⟩:=AS hown5;exact⟨A,_,c,hv⟩
   clear hown5 hgrow5;go_wp2_with fail
   go_roundw;case rel=>exact⟨k+1,by omega,by go_num,HB5.out,by rw[HT.out];exact HA5.out⟩
   case measure=>simp[intOf];omega
  ·have hkk:K.take k=K:=List.take_of_length_le (by omega);rw[hkk]at HA;clear hbel hacc;go_wp2_with fail
   go_ret;exact⟨_,rfl,HA.out,HB.out⟩
theorem QDF {w:World} {d T:Nat} {a0 a1 a2 a3:Value} (h:w.heap[d]?=some (.cells #[a0,a1,a2,a3] T (0,0))) (u0 u1 u2 u3:Value):(((((w.setCell ⟨d,0,none⟩ u0).setCell ⟨d,1,none⟩ u1).setCell ⟨d,2,none⟩ u2).setCell ⟨d,3,none⟩ u3)).heap[d]?=some (.cells #[u0,u1,u2,u3] T (0,0)):=by
 have h0:(w.setCell ⟨d,0,none⟩ u0).heap[d]?=some (.cells #[u0,a1,a2,a3] T (0,0)):=AY h;have h1:((w.setCell ⟨d,0,none⟩ u0).setCell ⟨d,1,none⟩ u1).heap[d]?=some (.cells #[u0,u1,a2,a3] T (0,0)):=AY h0;have h2:(((w.setCell ⟨d,0,none⟩ u0).setCell ⟨d,1,none⟩ u1).setCell ⟨d,2,none⟩ u2).heap[d]?=some (.cells #[u0,u1,u2,a3] T (0,0)):=AY h1;have h3:((((w.setCell ⟨d,0,none⟩ u0).setCell ⟨d,1,none⟩ u1).setCell ⟨d,2,none⟩ u2).setCell ⟨d,3,none⟩ u3).heap[d]?=some (.cells #[u0,u1,u2,u3] T (0,0)):=AY h2;exact h3
theorem QA0 {b d:Nat} (w:World) (v u0 u1 u2 u3:Value):AG (fun q=>q=b\/q=d) w (((((w.setCell ⟨b,3,none⟩ v).setCell ⟨d,0,none⟩ u0).setCell ⟨d,1,none⟩ u1).setCell ⟨d,2,none⟩ u2).setCell ⟨d,3,none⟩ u3):=(An (An (An (An (An (AG.refl _ _) (.inl rfl)) (.inr rfl)) (.inr rfl)) (.inr rfl)) (.inr rfl))
theorem QGa {w:World} {d T:Nat} {a0 a1 a2 a3:Value} (h:w.heap[d]?=some (.cells #[a0,a1,a2,a3] T (0,0))) (u:Value):(w.setCell ⟨d,1,none⟩ u).heap[d]?=some (.cells #[a0,u,a2,a3] T (0,0)):=AY h
theorem QGb {w:World} {d T:Nat} {a0 a1 a2 a3:Value} (h:w.heap[d]?=some (.cells #[a0,a1,a2,a3] T (0,0))) (u:Value):(w.setCell ⟨d,2,none⟩ u).heap[d]?=some (.cells #[a0,a1,u,a3] T (0,0)):=AY h
theorem LR {w:World} {b B:Nat} {cs:Array Value} {T:TypeId} {Ts:List TypeId} (h:w.heap[b]?=some (.cells cs T (0,0))) (hT:T∉Ts):Av (fun q=>q=b) w B Ts:=fun q cs' T' _ hh hT' e=>by
 subst e;rw[h]at hh;simp at hh;exact hT (hh.2▸hT')
set_option maxRecDepth 100000 in
set_option maxHeartbeats 8000000 in
theorem QDG (x:Tv) {w:World} {B:Nat} (hR:CS w B x.vR x.t.regs) (hB:Ec w B x.vB x.t.body) (hl1:x.t.regs.length<=10000) (hl2:x.t.body.length<=10000) (hs:∀y∈x.t.body,y.e.length<=10000/\y.f.length<=10000):
  Calls Tryz.prog 39 #[.agg #[.string ⟨x.t.name.toArray⟩,x.vR,x.vB,.int .i64 x.t.pl]] w (fun e w'=>∃u1 u2,e=.returned (.agg #[.string ⟨x.t.name.toArray⟩,u1,u2,.int .i64 0])/\CS w' w.heap.size u1 x.t.regs/\Ec w' w.heap.size u2 (x.t.body.map bareS)/\Below w.heap.size w w'):=by
 obtain⟨⟨name,regs,body,pl⟩,vR,vB⟩:=x;simp only at *;obtain⟨AR,cR,hvR, -⟩:=hR.reads;obtain⟨AB,cB,hvB⟩:=hB.slice;subst hvR hvB;have HS:=AA hs;have h0:=A7 w (.cells #[.string ⟨name.toArray⟩,.slice AR regs.length cR,.slice AB body.length cB,.int .i64 pl] 41) (.cells #[.string ⟨#[]⟩,.slice none 0 0,.slice none 0 0,.int .i64 0] 41);have HC1:=AA (QGZ (hR.on h0) hl1);have HB0:=AA (hB.keepT (AG.of (P:=fun _=>False) h0) Av.none);have H0:=AA h0
 have N1:=AA (((Below.refl _ (w.alloc (.cells #[.string ⟨name.toArray⟩,.slice AR regs.length cR,.slice AB body.length cB,.int .i64 pl] 41))).alloc (Nat.le_refl _) (.cells #[.string ⟨#[]⟩,.slice none 0 0,.slice none 0 0,.int .i64 0] 41)).block w.heap.size (by simp) |>.trans (heap_alloc_new w (.cells #[.string ⟨name.toArray⟩,.slice AR regs.length cR,.slice AB body.length cB,.int .i64 pl] 41)));have N2:=AA (heap_alloc2_new w (.cells #[.string ⟨name.toArray⟩,.slice AR regs.length cR,.slice AB body.length cB,.int .i64 pl] 41) (.cells #[.string ⟨#[]⟩,.slice none 0 0,.slice none 0 0,.int .i64 0] 41));clear hs hR hB h0;go_enter Tryz.func39,Tryz.ntmps39;go_wp2_with fail
 obtain⟨b,hb⟩:∃b,w.heap.size=b:=⟨_,rfl⟩
 obtain⟨d,hd⟩:∃d,b+1=d:=⟨_,rfl⟩
 have hsz:((w.alloc (.cells #[.string ⟨name.toArray⟩,.slice AR regs.length cR,.slice AB body.length cB,.int .i64 pl] 41)).alloc (.cells #[.string ⟨#[]⟩,.slice none 0 0,.slice none 0 0,.int .i64 0] 41)).heap.size=d+1:=by simp;omega
 generalize((w.alloc (.cells #[.string ⟨name.toArray⟩,.slice AR regs.length cR,.slice AB body.length cB,.int .i64 pl] 41)).alloc (.cells #[.string ⟨#[]⟩,.slice none 0 0,.slice none 0 0,.int .i64 0] 41))=X at *;rw[hb]at N1;rw[hb,hd]at N2;simp only[hb,hd];have hne:b≠d:=by omega
 refine HC1.out.mono ?_;rintro e w1 ⟨u1,rfl,ho1,hb1⟩;have hx1:=(hb1.block b (by omega)).trans N1.out;have hd1:=(hb1.block d (by omega)).trans N2.out;have c1':w1.cell? ⟨b,1,none⟩=some (.slice AR regs.length cR):=by rw[Lib.cell_of_heap hx1];rfl
 have f1':=Lib.frozen_of_heap hx1 1;have c2':w1.cell? ⟨b,2,none⟩=some (.slice AB body.length cB):=by rw[Lib.cell_of_heap hx1];rfl
 have hbsz:=hb1.size;obtain⟨A1,c1,rfl, -, -, -⟩:=AS ho1;have hk1:AG (fun q=>q=b) w1 (w1.setCell ⟨b,1,none⟩ (.slice A1 regs.length c1)):=An (AG.refl _ _) rfl;have HC2:=AA (QFB (((HB0.out.keepT (AG.of (P:=fun _=>False) hb1) Av.none)).keepT hk1 (LR hx1 (by decide))) hl2 HS.out);have HO1:=AA (ho1.keepT hk1 (LR hx1 (by decide)));have HX1:=AA (QGa hx1 (.slice A1 regs.length c1));have HD1:=AA (CV (j:=1) (v:=.slice A1 regs.length c1) hd1 (fun h=>hne h.symm));have HBL:=AA ((H0.out.trans (hb1.mono H0.out.size)).trans (hk1.below (fun k hk h=>by omega) (by have:=H0.out.size;omega)))
 clear hb1 hx1 hd1 ho1 hk1 HC1 HB0 N1 N2 H0;go_wp2_with fail
 generalize w1.setCell ⟨b,1,none⟩ (.slice A1 regs.length c1)=Y at *;refine HC2.out.mono ?_;rintro e w2 ⟨u2,rfl,ho2,hb2⟩;have hx2:=(hb2.block b (Array.getElem?_eq_some_iff.1 HX1.out).1).trans HX1.out;have hd2:=(hb2.block d (Array.getElem?_eq_some_iff.1 HD1.out).1).trans HD1.out;have q2:w2.cell? ⟨b,2,none⟩=some (.slice AB body.length cB):=by rw[Lib.cell_of_heap hx2];rfl
 have g2:=Lib.frozen_of_heap hx2 2;obtain⟨A2,c2,hv2⟩:=ho2.slice;rw[List.length_map]at hv2;subst hv2;have hk2:AG (fun q=>q=b) w2 (w2.setCell ⟨b,2,none⟩ (.slice A2 body.length c2)):=An (AG.refl _ _) rfl;have HO1':=AA (((HO1.out.on hb2).keepT hk2 (LR hx2 (by decide))).base (B':=w.heap.size) (by rw[hsz];omega));have HO2':=AA ((ho2.keepT hk2 (LR hx2 (by decide))).base (B':=w.heap.size) HBL.out.size);have hZ:=QGb hx2 (.slice A2 body.length c2);have hzd:=CV (j:=2) (v:=.slice A2 body.length c2) hd2 (fun h=>hne h.symm)
 have HBZ:=AA ((HBL.out.trans (hb2.mono HBL.out.size)).trans (hk2.below (fun k hk h=>by omega) ((HBL.out.trans (hb2.mono HBL.out.size)).size)));clear hb2 hx2 hd2 ho2 hk2 HC2 HO1 HX1 HD1 HBL c1' f1' c2';go_upto_region 3 with(fail)
 generalize w2.setCell ⟨b,2,none⟩ (.slice A2 body.length c2)=Z at *;clear q2 g2;have z0:Z.cell? ⟨b,0,none⟩=some (.string ⟨name.toArray⟩):=by rw[Lib.cell_of_heap hZ];rfl
 have z1:Z.cell? ⟨b,1,none⟩=some (.slice A1 regs.length c1):=by rw[Lib.cell_of_heap hZ];rfl
 have z2:Z.cell? ⟨b,2,none⟩=some (.slice A2 body.length c2):=by rw[Lib.cell_of_heap hZ];rfl
 have z3:Z.cell? ⟨b,3,none⟩=some (.int .i64 pl):=by rw[Lib.cell_of_heap hZ];rfl
 have f3:=Lib.frozen_of_heap hZ 3;have y0:Z.cell? ⟨d,0,none⟩=some (.string ⟨#[]⟩):=by rw[Lib.cell_of_heap hzd];rfl
 have k0:=Lib.frozen_of_heap hzd 0;have y1:Z.cell? ⟨d,1,none⟩=some (.slice none 0 0):=by rw[Lib.cell_of_heap hzd];rfl
 have k1:=Lib.frozen_of_heap hzd 1;have y2:Z.cell? ⟨d,2,none⟩=some (.slice none 0 0):=by rw[Lib.cell_of_heap hzd];rfl
 have k2:=Lib.frozen_of_heap hzd 2;have y3:Z.cell? ⟨d,3,none⟩=some (.int .i64 0):=by rw[Lib.cell_of_heap hzd];rfl
 have k3:=Lib.frozen_of_heap hzd 3;have HF:=AA (QDF (CV (j:=3) (v:=.int .i64 0) hzd (fun h=>hne h.symm)) (.string ⟨name.toArray⟩) (.slice A1 regs.length c1) (.slice A2 body.length c2) (.int .i64 0));have HKF:=AA (QA0 (b:=b) (d:=d) Z (.int .i64 0) (.string ⟨name.toArray⟩) (.slice A1 regs.length c1) (.slice A2 body.length c2) (.int .i64 0));have HZB:=AA hZ;have HZD:=AA hzd;clear hZ hzd;go_wp2_with fail
 generalize((((Z.setCell ⟨b,3,none⟩ (.int .i64 0)).setCell ⟨d,0,none⟩ (.string ⟨name.toArray⟩)).setCell ⟨d,1,none⟩ (.slice A1 regs.length c1)).setCell ⟨d,2,none⟩ (.slice A2 body.length c2)).setCell ⟨d,3,none⟩ (.int .i64 0)=V at *;have v0:V.cell? ⟨d,0,none⟩=some (.string ⟨name.toArray⟩):=by rw[Lib.cell_of_heap HF.out];rfl
 have v1:V.cell? ⟨d,1,none⟩=some (.slice A1 regs.length c1):=by rw[Lib.cell_of_heap HF.out];rfl
 have v2:V.cell? ⟨d,2,none⟩=some (.slice A2 body.length c2):=by rw[Lib.cell_of_heap HF.out];rfl
 have v3:V.cell? ⟨d,3,none⟩=some (.int .i64 0):=by rw[Lib.cell_of_heap HF.out];rfl
 clear z0 z1 z2 z3 f3 y0 y1 y2 y3 k0 k1 k2 k3;refine bodyPost_ret (v:=.agg #[.string ⟨name.toArray⟩,.slice A1 regs.length c1,.slice A2 body.length c2,.int .i64 0]) (by simp[results,Tryz.results39,go_sem,v0,v1,v2,v3]) rfl ?_;have hAv:Av (fun q=>q=b\/q=d) Z w.heap.size [9,44,46]:=fun q cs T _ hh hT e=>by
  rcases e with rfl|rfl
  ·rw[HZB.out]at hh;simp at hh;rw[<-hh.2]at hT;revert hT;decide
  ·rw[HZD.out]at hh;simp at hh;rw[<-hh.2]at hT;revert hT;decide
 exact⟨_,_,rfl,HO1'.out.keepT HKF.out (hAv.sub (by simp)),HO2'.out.keepT HKF.out (hAv.sub (by simp)),HBZ.out.trans (HKF.out.below (fun k hk h=>by omega) HBZ.out.size)⟩
theorem V9:(Tryz.prog.info? 41).map (fun i=>(i.zero,i.size,i.bytes))=some (some (.agg #[.string ⟨#[]⟩,.slice none 0 0,.slice none 0 0,.int .i64 0]),4,72):=by kernel_rfl
theorem Ym {wa w5:World} {B:Nat} {v v5:Value} {K:List Tv} {x:Tv} (h:Ci wa B v K) (hx:CS wa B x.vR x.t.regs/\Ec wa B x.vB x.t.body) (hg:wa.grownBy w5 v.ownBlock) (hr:w5.ownsRow B 41 4 v5 (K.length+1) (K.flatMap DI++DI x)):Ci w5 B v5 (K++[x]):=by
 have hA:Av (fun q=>v.ownBlock=some q) wa B [9,44,46]:=fun q cs T hB hh hT hP=>by
  obtain⟨_,cs',h'⟩:=AI h.row q hP;rw[h']at hh;simp at hh;rw[<-hh.2]at hT
  revert hT
  decide
 have hk:AG (fun q=>v.ownBlock=some q) wa w5:=AG.grown hg;refine⟨by rw[List.length_append,List.flatMap_append];simpa using hr,fun y hy=>?_⟩;rcases List.mem_append.1 hy with hy|hy
 ·exact⟨(h.sub y hy).1.keepT hk (hA.sub (by simp)),(h.sub y hy).2.keepT hk (hA.sub (by simp))⟩
 ·simp at hy;subst hy;exact⟨hx.1.keepT hk (hA.sub (by simp)),hx.2.keepT hk (hA.sub (by simp))⟩
def Gw (t:Thr):Prop:=t.regs.length<=10000/\t.body.length<=10000/\∀y∈t.body,y.e.length<=10000/\y.f.length<=10000
set_option maxRecDepth 100000 in
set_option maxHeartbeats 8000000 in
theorem QGc {K:List Tv} {v:Value} {w:World} {B:Nat} (h:Ci w B v K) (hl:K.length<=10000) (hs:∀x∈K,Gw x.t):
  Calls Tryz.prog 38 #[v,.func (.func 39) #[] #[]] w (fun e w'=>∃u,e=.returned u/\EV w' w.heap.size u (K.map (fun x=>CJ x.t))/\Below w.heap.size w w'):=by
 obtain⟨i0,hi0,hz0,hz1,hz2⟩:=info_parts V9;have HZ:=AA (show Tryz.prog.info? 41=some i0/\i0.zero=some (.agg #[.string ⟨#[]⟩,.slice none 0 0,.slice none 0 0,.int .i64 0])/\i0.size=4/\i0.bytes=72 from⟨hi0,hz0,hz1,hz2⟩);have HO:=AA h;have HS:=AA hs;obtain⟨A,c,rfl,hc,hm1,hr1⟩:=h.reads;clear hi0 hz0 hz1 hz2 hr1 h hs;go_enter Tryz.func38,Tryz.ntmps38;go_wp2_with fail
 go_loopw [5,10] (fun all i wr=>∃(k:Nat) (K':List Tv),k<=K.length/\i=.int .i64 k/\Below w.heap.size w wr/\Ci wr w.heap.size all K'/\K'.map (·.t)=(K.take k).map (fun x=>CJ x.t)) (fun _ i _=>K.length-(intOf i).toNat)
 case atStart=>exact⟨0,[],Nat.zero_le _,rfl,Below.refl _ _,⟨World.ownsRow_nil _ _ _ _,fun x h=>by cases h⟩,rfl⟩
 case round=>
  obtain⟨k,acc,hk,rfl,hbel,hacc,hmap⟩:=hrel;have HB:=AA hbel;have HA:=AA hacc;have hsz:=hbel.size;by_cases hlt:k<K.length
  ·have ha:K[k]?=some K[k]:=List.getElem?_eq_getElem hlt;have hin:=List.getElem_mem hlt;generalize K[k]=a at *;have HT:Hid ((acc.map (·.t))++[CJ a.t]=(K.take (k+1)).map (fun x=>CJ x.t)):=AA (by rw[List.take_add_one,ha,List.map_append,hmap];rfl);have HN:Hid (acc.length=k):=AA (by have:=congrArg List.length hmap;simp at this;omega);have hA:=(Below.refl wr.heap.size wr).alloc (Nat.le_refl _) (.cells #[.string ⟨a.t.name.toArray⟩,a.vR,a.vB,.int .i64 a.t.pl] 41);have hsub:=(HO.out.on hbel).sub a hin
   have HC:=AA (QDG a (hsub.1.on hA) (hsub.2.keepT (AG.of (P:=fun _=>False) hA) Av.none) (HS.out a hin).1 (HS.out a hin).2.1 (HS.out a hin).2.2);have HAL:=AA hA;obtain⟨A2,c2,hv,_,_,hr⟩:=(HO.out.on hbel).reads;obtain⟨rfl,_,rfl⟩:A=A2/\True/\c=c2:=by simpa using hv
   obtain⟨g,rfl, -,hg,x0,x1,x2,x3⟩:=hr k a ha;obtain⟨AE,cE,eE, -, -, -⟩:=hsub.1.reads;obtain⟨AF,cF,eF⟩:=hsub.2.slice;rw[eE]at x1 HC HAL;rw[eF]at x2 HC HAL;obtain⟨A3,c3,rfl, -, -, -⟩:=hacc.reads;clear ha hr hv hbel hacc hmap hin eE eF hA hsub;go_wp2_with fail
   refine HC.out.mono ?_;rintro e w1 ⟨u1,u2,rfl,hu1,hu2,hb⟩;have HB1:=AA ((AC HB.out HAL.out).trans (hb.mono (AC HB.out HAL.out).size));have hb2:=AC HAL.out hb;have HA1:=AA (HA.out.on hb2);have hws:=(AC HB.out HAL.out).size;have HU1:=AA (hu1.base (B':=w.heap.size) hws);have HU2:=AA (hu2.base (B':=w.heap.size) hws);have hsz1:=HB1.out.size;obtain⟨A1,n1,c1,rfl⟩:∃A n c,u1=.slice A n c:=by
    obtain⟨A,c,hv,_⟩:=AS hu1;exact⟨A,_,c,hv⟩
   obtain⟨A2,n2,c2,rfl⟩:∃A n c,u2=.slice A n c:=by
    obtain⟨A,c,hv⟩:=hu2.slice;exact⟨A,_,c,hv⟩
   clear hb hb2 hu1 hu2 hws;go_wp2_with (at_builtin;refine wpList_append_own _ rfl (.tmp 14) (.tmp 18) 24 rfl w.heap.size 41 i0 (.agg #[.string ⟨#[]⟩,.slice none 0 0,.slice none 0 0,.int .i64 0]) 4 72 Tryz.underlying24 HZ.out.1 HZ.out.2.1 HZ.out.2.2.1 HZ.out.2.2.2 rfl (by decide) _ acc.length (acc.flatMap DI) rfl ?dO ⟨w1.heap.size,0,none⟩ 1 1 [.string ⟨a.t.name.toArray⟩,.slice A1 n1 c1,.slice A2 n2 c2,.int .i64 0] (by rfl) (by rfl) ?d1 ?d2 ?d3 ?d4 ?d5 ?_)
   case dO=>exact(HA1.out.on ((Below.refl w1.heap.size w1).alloc (Nat.le_refl _) _)).row
   case d1=>exact World.news_of_block (cs:=#[.string ⟨a.t.name.toArray⟩,.slice A1 n1 c1,.slice A2 n2 c2,.int .i64 0]) (alloc_at rfl)
   case d2=>intro y hy;simp at hy;rcases hy with rfl|rfl|rfl|rfl<;>rfl
   case d3=>rw[HN.out];unfold maxLen;omega
   case d4=>rw[HN.out];omega
   case d5=>simp;omega
   intro v5 w5 hown5 hgrow5 _;have HB5:Hid (Below w.heap.size w w5):=AA ((HB1.out.alloc hsz1 _).grown hgrow5 (by simp;omega) (fun q hq=>(AI HA1.out.row q hq).1));have HA5:Hid (Ci w5 w.heap.size v5 (acc++[⟨CJ a.t,.slice A1 n1 c1,.slice A2 n2 c2⟩])):=AA (Ym (x:=⟨CJ a.t,.slice A1 n1 c1,.slice A2 n2 c2⟩) (HA1.out.on ((Below.refl w1.heap.size w1).alloc (Nat.le_refl _) _)) ⟨HU1.out.on ((Below.refl w1.heap.size w1).alloc (Nat.le_refl _) _),HU2.out.keepT (AG.of (P:=fun _=>False) ((Below.refl w1.heap.size w1).alloc (Nat.le_refl _) _)) Av.none⟩ hgrow5 hown5);obtain⟨A5,n5,c5,rfl⟩:∃A n c,v5=.slice A n c:=by
    obtain⟨A,c,hv,_⟩:=AS hown5;exact⟨A,_,c,hv⟩
   clear hown5 hgrow5;go_wp2_with fail
   go_roundw;case rel=>exact⟨k+1,_,by omega,by go_num,HB5.out,HA5.out,by rw[<-HT.out,List.map_append];rfl⟩
   case measure=>simp[intOf];omega
  ·have hkk:K.take k=K:=List.take_of_length_le (by omega);rw[hkk]at hmap;have HM:=AA hmap;clear hbel hacc hmap hkk;go_wp2_with fail
   go_ret;exact⟨_,rfl,⟨acc,HA.out,HM.out⟩,HB.out⟩
theorem TA {M:List Thr} {v:Value} {w:World} {B:Nat} (h:EV w B v M) (hl:M.length<=10000) (hs:∀x∈M,Gw x):
  Calls Tryz.prog 38 #[v,.func (.func 39) #[] #[]] w (fun e w'=>∃u,e=.returned u/\EV w' w.heap.size u (M.map CJ)/\Below w.heap.size w w'):=by
 obtain⟨K,hK,rfl⟩:=h;have:=QGc hK (by rw[List.length_map]at hl;exact hl) (fun x hx=>hs _ (List.mem_map_of_mem hx));rw[List.map_map];exact this
set_option maxRecDepth 100000 in
set_option maxHeartbeats 2000000 in
theorem QGd (c:Cel) (w:World):Calls Tryz.prog 93 #[.agg #[.string ⟨c.name.toArray⟩,.int .i64 c.n,.int .i64 c.pl]] w (fun e w'=>e=.returned (.agg #[.string ⟨c.name.toArray⟩,.int .i64 c.n,.int .i64 0])/\Below w.heap.size w w'):=by
 go_enter Tryz.func93,Tryz.ntmps93;go_wp2_with fail
 refine bodyPost_ret (v:=.agg #[.string ⟨c.name.toArray⟩,.int .i64 c.n,.int .i64 0]) (by simp[results,Tryz.results93,go_sem]) rfl ?_;refine⟨rfl,?_⟩;repeat(first|exact Below.refl _ _|(refine Below.setCell ?_ (by simp) _)|(refine Below.alloc ?_ (by simp) _))
set_option maxRecDepth 100000 in
set_option maxHeartbeats 8000000 in
theorem QGe {K:List Cel} {v:Value} {w:World} {B:Nat} (h:Bw w B v K) (hl:K.length<=10000):
  Calls Tryz.prog 92 #[v,.func (.func 93) #[] #[]] w (fun e w'=>∃u,e=.returned u/\Bw w' w.heap.size u (K.map bareCel)/\Below w.heap.size w w'):=by
 obtain⟨i0,hi0,hz0,hz1,hz2⟩:=info_parts Nr;have HZ:=AA (show Tryz.prog.info? 48=some i0/\i0.zero=some (.agg #[.string ⟨#[]⟩,.int .i64 0,.int .i64 0])/\i0.size=3/\i0.bytes=32 from⟨hi0,hz0,hz1,hz2⟩);have HO:=AA h;obtain⟨A,c,rfl,hc,hm1,hr1⟩:=h.reads;clear hi0 hz0 hz1 hz2 hr1 h;go_enter Tryz.func92,Tryz.ntmps92;go_wp2_with fail
 go_loopw [5,10] (fun all i wr=>∃k:Nat,k<=K.length/\i=.int .i64 k/\Below w.heap.size w wr/\Bw wr w.heap.size all ((K.take k).map bareCel)) (fun _ i _=>K.length-(intOf i).toNat)
 case atStart=>exact⟨0,Nat.zero_le _,rfl,Below.refl _ _,Hj _ _⟩
 case round=>
  obtain⟨k,hk,rfl,hbel,hacc⟩:=hrel;have HB:=AA hbel;have HA:=AA hacc;have hsz:=hbel.size;by_cases hlt:k<K.length
  ·have ha:K[k]?=some K[k]:=List.getElem?_eq_getElem hlt;generalize K[k]=a at *;have HT:Hid ((K.take (k+1)).map bareCel=(K.take k).map bareCel++[bareCel a]):=AA (by rw[List.take_add_one,ha,List.map_append];rfl);have HN:Hid (((K.take k).map bareCel).length=k):=AA (by simp;omega);obtain⟨A2,c2,hv,_,_,hr⟩:=(HO.out.on hbel).reads;obtain⟨rfl,_,rfl⟩:A=A2/\True/\c=c2:=by simpa using hv
   obtain⟨g,rfl, -,hg,x0,x1,x2⟩:=hr k a ha;obtain⟨A3,c3,rfl, -, -, -⟩:=hacc.reads;generalize(K.take k).map bareCel=acc at *;clear ha hr hv hbel hacc;go_wp2_with fail
   refine(QGd a _).mono ?_;rintro e w1 ⟨rfl,hb⟩;have HB1:=AA ((HB.out.alloc hsz _).trans (hb.mono (by simp;omega)));have HA1:=AA (AO (P:=fun _=>False) HA.out (AG.of (((Below.refl wr.heap.size wr).alloc (Nat.le_refl _) _).trans (hb.mono (by simp)))) (fun _ _=>id));have hsz1:=HB1.out.size;have hk1:=hlt;clear hb
   go_wp2_with (at_builtin;refine wpList_append_own _ rfl (.tmp 14) (.tmp 18) 23 rfl w.heap.size 48 i0 (.agg #[.string ⟨#[]⟩,.int .i64 0,.int .i64 0]) 3 32 Tryz.underlying23 HZ.out.1 HZ.out.2.1 HZ.out.2.2.1 HZ.out.2.2.2 rfl (by decide) _ acc.length (acc.flatMap Am) rfl ?dO ⟨w1.heap.size,0,none⟩ 1 1 (Am (bareCel a)) (by rfl) (by rfl) ?d1 ?d2 ?d3 ?d4 ?d5 ?_)
   case dO=>exact AO (P:=fun _=>False) HA1.out (AG.of ((Below.refl w1.heap.size w1).alloc (Nat.le_refl _) _)) (fun _ _=>id)
   case d1=>exact World.news_of_block (cs:=(Am (bareCel a)).toArray) (alloc_at rfl)
   case d2=>exact Ns _
   case d3=>rw[HN.out];unfold maxLen;omega
   case d4=>rw[HN.out];omega
   case d5=>simp;omega
   intro v5 w5 hown5 hgrow5 _;have HB5:Hid (Below w.heap.size w w5):=AA ((HB1.out.alloc hsz1 _).grown hgrow5 (by simp;omega) (fun q hq=>(AI HA1.out q hq).1));have HA5:Hid (Bw w5 w.heap.size v5 (acc++[bareCel a])):=AA (by
    unfold Bw;rw[List.length_append];simpa using hown5)
   obtain⟨A5,n5,c5,rfl⟩:∃A n c,v5=.slice A n c:=by
    obtain⟨A,c,hv,_⟩:=AS hown5;exact⟨A,_,c,hv⟩
   clear hown5 hgrow5;go_wp2_with fail
   go_roundw;case rel=>exact⟨k+1,by omega,by go_num,HB5.out,by rw[HT.out];exact HA5.out⟩
   case measure=>simp[intOf];omega
  ·have hkk:K.take k=K:=List.take_of_length_le (by omega);rw[hkk]at HA;clear hbel hacc;go_wp2_with fail
   go_ret;exact⟨_,rfl,HA.out,HB.out⟩
set_option maxRecDepth 100000 in
set_option maxHeartbeats 2000000 in
theorem Ue {K:List Cel} {v:Value} {w:World} {B:Nat} (h:Bw w B v K) (hl:K.length<=10000):
  Calls Tryz.prog 37 #[v] w (fun e w'=>∃u,e=.returned u/\Bw w' w.heap.size u (K.map bareCel)/\Below w.heap.size w w'):=by
 have HC:=AA (QGe h hl);clear h;go_enter Tryz.func37,Tryz.ntmps37;go_wp2_with fail
 refine HC.out.mono ?_;rintro e w1 ⟨u,rfl,ho,hb⟩;have HB:=AA hb;have HO:=AA ho;obtain⟨A,c,rfl, -, -, -⟩:=ho.reads;clear hb ho;go_wp2_with fail
 go_ret;have h9:=HO.out;rw[List.length_map]at h9;exact⟨_,rfl,h9,HB.out⟩
set_option maxRecDepth 100000 in
set_option maxHeartbeats 4000000 in
theorem eqC {K M:List Cel} {v1 v2:Value} {w:World} {B1 B2:Nat} (q:Cel->Cel->Bool) (h1:Bw w B1 v1 K) (h2:Bw w B2 v2 M) (hl:K.length<=10000)
  (hF:∀a∈K,∀b∈M,∀w',Below w.heap.size w w'->Calls Tryz.prog 124 #[.agg #[.string ⟨a.name.toArray⟩,.int .i64 a.n,.int .i64 a.pl],.agg #[.string ⟨b.name.toArray⟩,.int .i64 b.n,.int .i64 b.pl]] w' (AK (q a b) w')):Calls Tryz.prog 123 #[v1,v2,.func (.func 124) #[] #[]] w (AK (Ae q K M) w):=by
 have HR1:=AA h1;have HR2:=AA h2;have HF:=AA hF;obtain⟨A,c,rfl,hc,hm1,hr1⟩:=h1.reads;obtain⟨A',c',rfl,hc',hm2,hr2⟩:=h2.reads;clear hr1 hr2 hF h1 h2;by_cases hL:K.length=M.length
 ·rw[<-hL]at HR2 hc'⊢;have HL:=AA hL;have HM:=AA (show∀k,k<K.length->k<M.length by rw[hL];exact fun _ h=>h);clear hL;go_enter Tryz.func123,Tryz.ntmps123;go_wp2_with fail
  go_loopw [17] (fun i wr=>∃k:Nat,k<=K.length/\i=.int .i64 k/\Below w.heap.size w wr/\Ae q (K.take k) (M.take k)=true) (fun i _=>K.length-(intOf i).toNat)
  case atStart=>exact⟨0,Nat.zero_le _,rfl,Below.refl _ _,rfl⟩
  case round=>
   obtain⟨k,hk,rfl,hbel,hs⟩:=hrel;have HS:=AA hs;have HB:=AA hbel;have hsz:=hbel.size;clear hs;by_cases hlt:k<K.length
   ·have hkm:=HM.out k hlt;have ha:K[k]?=some K[k]:=List.getElem?_eq_getElem hlt;have hb:M[k]?=some (M[k]'hkm):=List.getElem?_eq_getElem hkm
    generalize K[k]=a at *;generalize M[k]'hkm=b at *
    have HC:=AA (fun w' (h':Below wr.heap.size wr w')=>HF.out a (List.mem_of_getElem? ha) b (List.mem_of_getElem? hb) w' (AC HB.out h'));obtain⟨A2,c2,hv,_,_,hr⟩:=(HR1.out.on hbel).reads;obtain⟨rfl,_,rfl⟩:A=A2/\True/\c=c2:=by simpa using hv
    obtain⟨A2',c2',hv',_,_,hr'⟩:=(HR2.out.on hbel).reads;obtain⟨rfl,rfl⟩:A'=A2'/\c'=c2':=by simp only[Value.slice.injEq]at hv';exact⟨hv'.1,hv'.2.2⟩
    obtain⟨g,rfl, -,hg,x0,x1,x2⟩:=hr k a ha;obtain⟨g',rfl, -,hg',y0,y1,y2⟩:=hr' k b hb;have HN:=AA (fun h=>DD (q:=q) ha hb h);have HY:=AA (Bz (q:=q) ha hb);clear ha hb hr hr' hv hv' hbel;cases e1:q a b with
    |false=>
     have HE:=AA e1;clear e1;go_wp2_with fail
     refine(HC.out _ (A7 _ _ _)).mono ?_;rw[HE.out];rintro e w1 ⟨rfl,hb⟩;have HB2:=AA (((HB.out.alloc hsz _).alloc (by simp;omega) _).trans (hb.mono (by simp;omega)));clear hb;go_wp2_with fail
     go_ret;exact⟨AH (HN.out HE.out).symm,HB2.out⟩
    |true=>
     have HE:=AA e1;clear e1;go_wp2_with fail
     refine(HC.out _ (A7 _ _ _)).mono ?_;rw[HE.out];rintro e w1 ⟨rfl,hb⟩;have HB2:=AA (((HB.out.alloc hsz _).alloc (by simp;omega) _).trans (hb.mono (by simp;omega)));clear hb;go_wp2_with fail
     go_roundw;case rel=>exact⟨k+1,by omega,by go_num,HB2.out,by rw[HY.out,HS.out,HE.out];rfl⟩
     case measure=>simp[intOf];omega
   ·have HQ:=AA (Cb (q:=q) (by omega) HL.out HS.out);clear hbel;go_wp2_with fail
    go_ret;exact⟨AH HQ.out.symm,HB.out⟩
 ·have HQ:=AA (CZ (q:=q) hL);have hd:((K.length:Int) != (M.length:Int))=true:=by simp;omega
  clear hL;go_enter Tryz.func123,Tryz.ntmps123;go_wp2_with fail
  go_ret;exact⟨AH HQ.out.symm,Below.refl _ _⟩
set_option maxRecDepth 100000 in
set_option maxHeartbeats 4000000 in
theorem eqM {K M:List Cv} {v1 v2:Value} {w:World} {B1 B2:Nat} (q:Cv->Cv->Bool) (h1:Dy w B1 v1 K) (h2:Dy w B2 v2 M) (hl:K.length<=10000)
  (hF:∀a∈K,∀b∈M,∀w',Below w.heap.size w w'->Calls Tryz.prog 70 #[.agg #[a.vE,.int .i64 a.c.pl],.agg #[b.vE,.int .i64 b.c.pl]] w' (AK (q a b) w')):Calls Tryz.prog 69 #[v1,v2,.func (.func 70) #[] #[]] w (AK (Ae q K M) w):=by
 have HR1:=AA h1;have HR2:=AA h2;have HF:=AA hF;obtain⟨A,c,rfl,hc,hm1,hr1⟩:=h1.reads;obtain⟨A',c',rfl,hc',hm2,hr2⟩:=h2.reads;clear hr1 hr2 hF h1 h2;by_cases hL:K.length=M.length
 ·rw[<-hL]at HR2 hc'⊢;have HL:=AA hL;have HM:=AA (show∀k,k<K.length->k<M.length by rw[hL];exact fun _ h=>h);clear hL;go_enter Tryz.func69,Tryz.ntmps69;go_wp2_with fail
  go_loopw [17] (fun i wr=>∃k:Nat,k<=K.length/\i=.int .i64 k/\Below w.heap.size w wr/\Ae q (K.take k) (M.take k)=true) (fun i _=>K.length-(intOf i).toNat)
  case atStart=>exact⟨0,Nat.zero_le _,rfl,Below.refl _ _,rfl⟩
  case round=>
   obtain⟨k,hk,rfl,hbel,hs⟩:=hrel;have HS:=AA hs;have HB:=AA hbel;have hsz:=hbel.size;clear hs;by_cases hlt:k<K.length
   ·have hkm:=HM.out k hlt;have ha:K[k]?=some K[k]:=List.getElem?_eq_getElem hlt;have hb:M[k]?=some (M[k]'hkm):=List.getElem?_eq_getElem hkm
    generalize K[k]=a at *;generalize M[k]'hkm=b at *
    have HC:=AA (fun w' (h':Below wr.heap.size wr w')=>HF.out a (List.mem_of_getElem? ha) b (List.mem_of_getElem? hb) w' (AC HB.out h'));obtain⟨A2,c2,hv,_,_,hr⟩:=(HR1.out.on hbel).reads;obtain⟨rfl,_,rfl⟩:A=A2/\True/\c=c2:=by simpa using hv
    obtain⟨A2',c2',hv',_,_,hr'⟩:=(HR2.out.on hbel).reads;obtain⟨rfl,rfl⟩:A'=A2'/\c'=c2':=by simp only[Value.slice.injEq]at hv';exact⟨hv'.1,hv'.2.2⟩
    obtain⟨g,rfl, -,hg,x0,x1⟩:=hr k a ha;obtain⟨g',rfl, -,hg',y0,y1⟩:=hr' k b hb;have HN:=AA (fun h=>DD (q:=q) ha hb h);have HY:=AA (Bz (q:=q) ha hb);obtain⟨AE,cE,eE, -, -, -⟩:=(HR1.out.sub a (List.mem_of_getElem? ha)).rd;obtain⟨BE,dE,fE, -, -, -⟩:=(HR2.out.sub b (List.mem_of_getElem? hb)).rd;simp only[eE,fE]at HC x0 y0;clear eE fE;clear ha hb hr hr' hv hv' hbel;cases e1:q a b with
    |false=>
     have HE:=AA e1;clear e1;go_wp2_with fail
     refine(HC.out _ (A7 _ _ _)).mono ?_;rw[HE.out];rintro e w1 ⟨rfl,hb⟩;have HB2:=AA (((HB.out.alloc hsz _).alloc (by simp;omega) _).trans (hb.mono (by simp;omega)));clear hb;go_wp2_with fail
     go_ret;exact⟨AH (HN.out HE.out).symm,HB2.out⟩
    |true=>
     have HE:=AA e1;clear e1;go_wp2_with fail
     refine(HC.out _ (A7 _ _ _)).mono ?_;rw[HE.out];rintro e w1 ⟨rfl,hb⟩;have HB2:=AA (((HB.out.alloc hsz _).alloc (by simp;omega) _).trans (hb.mono (by simp;omega)));clear hb;go_wp2_with fail
     go_roundw;case rel=>exact⟨k+1,by omega,by go_num,HB2.out,by rw[HY.out,HS.out,HE.out];rfl⟩
     case measure=>simp[intOf];omega
   ·have HQ:=AA (Cb (q:=q) (by omega) HL.out HS.out);clear hbel;go_wp2_with fail
    go_ret;exact⟨AH HQ.out.symm,HB.out⟩
 ·have HQ:=AA (CZ (q:=q) hL);have hd:((K.length:Int) != (M.length:Int))=true:=by simp;omega
  clear hL;go_enter Tryz.func69,Tryz.ntmps69;go_wp2_with fail
  go_ret;exact⟨AH HQ.out.symm,Below.refl _ _⟩
end Go.Proofs.YthfkpalfopdmhaaGreatDoor
