/- Texts of the walk, packed. -/
import Derived.Test.YthfkpalfopdmhaaGreatDoorW18
import Derived.Test.YthfkpalfopdmhaaGreatDoorW00
namespace Go.Proofs.YthfkpalfopdmhaaGreatDoor
open Go.RowKit
theorem QEF (t:Bk):∀l m,(0<l↔0<m)->t.brk l=t.brk m:=by
 induction t with
 |nil=>intro l m _;rfl
 |cons s b e r i1 i2 i3=>
  intro l m h;simp only[Bk.brk];rw[i3 l m h,show decide (0<l)=decide (0<m)from by simp[h]];by_cases hk:s.kind=12
  ·rw[if_pos hk,if_pos hk,i1 (l+1) (m+1) (by omega),i2 (l+1) (m+1) (by omega)]
  ·rw[if_neg hk,if_neg hk,i1 l m h,i2 l m h]
def H7 (b:Bool):Nat:=if b=true then 1 else 0
def Dx (b:Bool) (L:List Stm):Bool:=match Dp L with
 |some t=>L.all EY&&t.brk (H7 b)
 |none=>false
def To (x:Stm) (n:Nat) (b:Bool):Prop:=EY x=true/\JF x n/\¬(x.kind=13/\b=false)
theorem Zm (b:Bool):Dx b []=true:=by cases b<;>rfl
theorem Lc {x:Stm} {r:List Stm} {b:Bool} (h:¬To x r.length b):Dx b (x::r)=false:=by
 unfold Dx;rw[QU];by_cases hh:JF x r.length
 ·rw[if_pos hh];cases Dp (Dn x r)with
  |none=>rfl
  |some t1=>cases Dp (Db x r)with
   |none=>rfl
   |some t2=>cases Dp (Do x r)with
    |none=>rfl
    |some t3=>
     by_cases hf:EY x=true
     ·have hk:x.kind=13/\b=false:=by
       by_cases hq:x.kind=13/\b=false
       ·exact hq
       ·exact absurd ⟨hf,hh,hq⟩ h
      simp[Bk.brk,hk.1,hk.2,H7]
     ·rw[Bool.not_eq_true]at hf;simp[hf]
 ·rw[if_neg hh]
theorem Wy {x:Stm} {r:List Stm} {b:Bool} (h:To x r.length b):Dx b (x::r)=(Dx (b||decide (x.kind=12)) (Dn x r)&&(Dx b (Db x r)&&Dx b (Do x r))):=by
 obtain⟨hf,hh,hk⟩:=h;unfold Dx;rw[QU,if_pos hh];have hall:(x::r).all EY=((Dn x r).all EY&&((Db x r).all EY&&(Do x r).all EY)):=by
  rw[List.all_cons,hf,Bool.true_and,<-List.all_append,<-List.all_append,QD]
 rw[hall];generalize hB:Dn x r=B;generalize hE:Db x r=E;generalize hR:Do x r=R;cases h1:Dp B with
 |none=>simp
 |some t1=>cases h2:Dp E with
  |none=>simp
  |some t2=>cases h3:Dp R with
   |none=>simp
   |some t3=>
    have e13:(!decide (x.kind=13)||decide (0<H7 b))=true:=by
     by_cases h13:x.kind=13
     ·cases b with
      |true=>simp[H7]
      |false=>exact absurd ⟨h13,rfl⟩ hk
     ·simp[h13]
    have eb:t1.brk (if x.kind=12 then H7 b+1 else H7 b)=t1.brk (H7 (b||decide (x.kind=12))):=by
     apply QEF;by_cases h12:x.kind=12
     ·simp[h12,H7]
     ·simp[h12,H7]
    have ee:t2.brk (if x.kind=12 then H7 b+1 else H7 b)=t2.brk (H7 b):=by
     by_cases h12:x.kind=12
     ·have h0:x.els=0:=by
       obtain⟨_,g2,_,_,g5⟩:=hh;by_cases hp:0<x.els
       ·have:=g5 hp;omega
       ·omega
      have:E=[]:=by rw[<-hE];unfold Db;rw[h0];simp
      subst this;have:t2=.nil:=by
       have h4:Dp []=some Bk.nil:=rfl;rw[h4]at h2;exact(Option.some.inj h2).symm
      subst this;rfl
     ·rw[if_neg h12]
    simp only[Bk.brk,e13,eb,ee,Bool.true_and];cases B.all EY<;>cases E.all EY<;>cases R.all EY<;>cases t1.brk (H7 (b||decide (x.kind=12)))<;>cases t2.brk (H7 b)<;>cases t3.brk (H7 b)<;>rfl
theorem QY (L:List Stm):CP L=(decide (L.length<=40)&&Dx false L&&(match Dp L with
 |some t=>decide (t.deep<=12)
 |none=>false)):=by
 unfold CP YD Dx;cases Dp L with
 |none=>simp
 |some t=>
  have:H7 false=0:=rfl;rw[this];cases h:t.brk 0<;>simp[h]
theorem Zn {x:Stm} {n:Nat} {b:Bool} (ho:ownB x=true) (h2:¬(n:Int)-x.body<x.els) (h3:¬(x.kind=13/\b=false)):To x n b:=by
 rw[Tn]at ho;simp only[Bool.and_eq_true,Bool.or_eq_true,decide_eq_true_eq]at ho;obtain⟨⟨f1,f2⟩,f3⟩:=ho;refine⟨f1,?_,h3⟩;by_cases hb:Hq x.kind
 ·rw[if_pos hb]at f2;simp only[Bool.and_eq_true,decide_eq_true_eq]at f2;exact⟨f2.1,f2.2,by omega,fun _=>hb,fun h=>by rcases f3 with h'|h';omega;exact h'⟩
 ·rw[if_neg hb]at f2;simp only[Bool.and_eq_true,decide_eq_true_eq]at f2;exact⟨by omega,by omega,by omega,fun h=>by omega,fun h=>by omega⟩
theorem J9 {x:Stm} {n:Nat} {b:Bool} (h:To x n b):ownB x=true/\¬(n:Int)<x.body/\¬(n:Int)-x.body<x.els/\¬(x.kind=13/\b=false):=by
 obtain⟨f1,⟨g1,g2,g3,g4,g5⟩,h3⟩:=h;refine⟨?_,by omega,by omega,h3⟩;rw[Tn,f1];by_cases hb:Hq x.kind
 ·rw[if_pos hb];by_cases he:x.els=0
  ·simp[he,g1]
  ·have:=g5 (by omega);simp[he,g1,g2,this]
 ·rw[if_neg hb];have b0:x.body=0:=by
   by_cases hp:0<x.body
   ·exact absurd (g4 hp) hb
   ·omega
  have e0:x.els=0:=by
   by_cases hp:0<x.els
   ·exact absurd (Or.inl (g5 hp)) hb
   ·omega
  simp[b0,e0]
def lenV:Value->Nat
 |.slice _ n _=>n
 |_=>0
theorem NT {x:Stm} {r:List Stm} {y:Stm} (h:y∈Dn x r):y∈r:=List.mem_of_mem_take h
theorem NU {x:Stm} {r:List Stm} {y:Stm} (h:y∈Db x r):y∈r:=List.mem_of_mem_drop (List.mem_of_mem_take h)
theorem NV {x:Stm} {r:List Stm} {y:Stm} (h:y∈Do x r):y∈r:=List.mem_of_mem_drop h
theorem BG.lenV {w:World} {v:Value} {L:List Stm} (h:BG w v L):lenV v=L.length:=by
 obtain⟨A,c,rfl,_⟩:=h;rfl
def QZ (n:Nat):Prop:=∀(L:List Stm) (v:Value) (b:Bool) (w:World),L.length=n->n<=40->(∀x∈L,Fb x)->BG w v L->Tabs w->Calls Tryz.prog 197 #[v,.bool b] w (AK (Dx b L) w)
set_option maxRecDepth 100000 in
set_option maxHeartbeats 8000000 in
theorem Zo (n:Nat) (ih:∀m,m<n->QZ m):QZ n:=by
 intro L v b w hn h40 hs h ht;subst hn;have HL:=AA h;have IH:=AA ih;have HS:=AA hs;have HT:=AA ht;clear ih hs ht;obtain⟨A,c,rfl,_⟩:=h;obtain⟨R,hR⟩:∃R,Dx b L=R:=⟨_,rfl⟩
 rw[hR];have HV:=AA hR;clear hR;go_enter Tryz.func197,Tryz.ntmps197;go_wp2_with fail
 go_loopw [0] (fun v wr=>∃M:List Stm,M.length<=L.length/\BG wr v M/\(∀x∈M,Fb x)/\Dx b M=R/\Below w.heap.size w wr) (fun v _=>lenV v)
 case atStart=>exact⟨L,Nat.le_refl _,HL.out,HS.out,HV.out,Below.refl _ _⟩
 case round=>
  obtain⟨M,hM,hr,hsm,hf,hb⟩:=hrel;have HM:=AA hr;have HF:=AA hf;have HB:=AA hb;have HSM:=AA hsm;have HTR:=AA (HT.out.on hb);clear hf hb hsm;obtain⟨A',c',rfl,hc',hm',hr⟩:=hr;cases M with
  |nil=>
   have HN:Hid (R=true):=AA (by rw[<-HF.out];exact Zm b);clear hr;go_wp2_with fail
   go_ret;exact⟨AH HN.out.symm,HB.out⟩
  |cons x r=>
   obtain⟨g,o,AE,nE,cE,AF,nF,cF,rfl,h9⟩:=hr 0 x rfl;have HSX:=AA (HSM.out x (List.mem_cons_self ..));clear hr;obtain⟨lt9,x0,x1,x2,x3,x4,x5,x6,x7,x8,re,rf⟩:=h9;simp only[Nat.zero_mul,Nat.add_zero]at x0 x1 x2 x3 x4 x5 x6 x7 x8;have HRE:=AA re;have HRF:=AA rf;clear re rf;rw[show(x::r).length=r.length+1 from rfl]at hc' hM⊢;go_upto_region 4 with(fail)
   have HBX:=AA ((Below.refl wr.heap.size wr).alloc (Nat.le_refl _) (.cells #[.int .i64 x.kind,.string ⟨x.reg.toArray⟩,.string ⟨x.name.toArray⟩,.slice AE nE cE,.slice AF nF cF,.int .i64 x.n,.int .i64 x.body,.int .i64 x.els,.int .i64 x.pl] 44));have N9:=AA (Ea wr (.int .i64 x.kind) (.string ⟨x.reg.toArray⟩) (.string ⟨x.name.toArray⟩) (.slice AE nE cE) (.slice AF nF cF) (.int .i64 x.n) (.int .i64 x.body) (.int .i64 x.els) (.int .i64 x.pl) 44);generalize wr.alloc (.cells #[.int .i64 x.kind,.string ⟨x.reg.toArray⟩,.string ⟨x.name.toArray⟩,.slice AE nE cE,.slice AF nF cF,.int .i64 x.n,.int .i64 x.body,.int .i64 x.els,.int .i64 x.pl] 44)=X at *
   clear x0 x1 x2 x3 x4 x5 x6 x7 x8 lt9;obtain⟨z,z0,z1,z2,z3,z4,z5,z6,z7,z8⟩:=N9.out;go_wp2_with fail
   refine(QED x (.slice AE nE cE) (.slice AF nF cF) _ (HRE.out.on HBX.out) (HRF.out.on HBX.out) HSX.out (HTR.out.on HBX.out)).mono ?_;cases ho:ownB x with
   |false=>
    have HN:Hid (R=false):=AA (by rw[<-HF.out];exact Lc (fun hk=>by rw[(J9 hk).1]at ho;cases ho));rintro e1 w1 ⟨rfl,hb1⟩;go_wp2_with fail
    go_ret;exact⟨AH HN.out.symm,AC HB.out (AC HBX.out hb1)⟩
   |true=>
    rintro e1 w1 ⟨rfl,hb1⟩;have HO:=AA ho;have HB1:=AA (AC HBX.out hb1);have N1:=AA (N9.out.on hb1);have HM1:=AA (HM.out.on HB1.out);clear ho hb1 z z0 z1 z2 z3 z4 z5 z6 z7 z8 N9;obtain⟨z,z0,z1,z2,z3,z4,z5,z6,z7,z8⟩:=N1.out;by_cases c1:(r.length:Int)<x.body
    ·have HN:Hid (R=false):=AA (by rw[<-HF.out];exact Lc (fun hk=>(J9 hk).2.1 c1));go_wp2_with fail
     go_ret;exact⟨AH HN.out.symm,AC HB.out HB1.out⟩
    ·have hb0:0<=x.body:=by
      have:=HO.out;rw[Tn]at this;simp only[Bool.and_eq_true]at this;obtain⟨⟨_,h2⟩,_⟩:=this;split at h2
      ·simp at h2;omega
      ·simp at h2;omega
     by_cases c2:(r.length:Int)-x.body<x.els
     ·have HN:Hid (R=false):=AA (by rw[<-HF.out];exact Lc (fun hk=>(J9 hk).2.2.1 c2));go_wp2_with fail
      go_ret;exact⟨AH HN.out.symm,AC HB.out HB1.out⟩
     ·by_cases c3:x.kind=13/\b=false
      ·have HN:Hid (R=false):=AA (by rw[<-HF.out];exact Lc (fun hk=>(J9 hk).2.2.2 c3));obtain⟨c4,rfl⟩:=c3;have c5:(x.kind==13)=true:=by simp[c4]
       clear c4;go_wp2_with fail
       go_ret;exact⟨AH HN.out.symm,AC HB.out HB1.out⟩
      ·have HK:=AA (Zn HO.out c2 c3);have HP:=AA (OG HK.out.2.1);have hlen:(Dn x r).length<L.length/\(Db x r).length<L.length/\(Do x r).length<=r.length:=by
        have h1:=HP.out;have h2:=HK.out.2.1.2.1;omega
       obtain⟨l1,l2,l3⟩:=hlen;have HST:=AA (Wy HK.out);cases b with
       |true=>
        have HIN:Hid ((true||decide (x.kind=12))=true):=AA rfl;clear c3;cases c5:(x.kind==13)with
        |true=>
         go_wp2_with fail
         refine(LA _ x r _ HM1.out HK.out.2.1 (by omega)).mono ?_;rintro e2 w2 ⟨v1,v2,v3,rfl,r1,r2,r3,hb2⟩;have R1:=AA r1;have R2:=AA r2;have R3:=AA r3;have HB2:=AA (AC HB1.out hb2);have N2:=AA (N1.out.on hb2);clear r1 r2 r3 hb2 z z0 z1 z2 z3 z4 z5 z6 z7 z8 N1;have z0:=N2.out.c0;go_wp2_with fail
         refine(IH.out _ l1 (Dn x r) v1 true _ rfl (by omega) (fun y hy=>HSM.out y (List.mem_cons_of_mem _ (NT hy))) R1.out (HTR.out.on HB2.out)).mono ?_;cases q1:Dx true (Dn x r)with
         |false=>
          have HN:Hid (R=false):=AA (by rw[<-HF.out,HST.out,HIN.out,q1];rfl);rintro e3 w3 ⟨rfl,hb3⟩;go_wp2_with fail
          go_ret;exact⟨AH HN.out.symm,AC HB.out (AC HB2.out hb3)⟩
         |true=>
          rintro e3 w3 ⟨rfl,hb3⟩;have HB3:=AA (AC HB2.out hb3);have R2':=AA (R2.out.on hb3);have R3':=AA (R3.out.on hb3);clear hb3 z0;go_wp2_with fail
          refine(IH.out _ l2 (Db x r) v2 true _ rfl (by omega) (fun y hy=>HSM.out y (List.mem_cons_of_mem _ (NU hy))) R2'.out (HTR.out.on HB3.out)).mono ?_;cases q2:Dx true (Db x r)with
          |false=>
           have HN:Hid (R=false):=AA (by rw[<-HF.out,HST.out,HIN.out,q1,q2];rfl);rintro e4 w4 ⟨rfl,hb4⟩;go_wp2_with fail
           go_ret;exact⟨AH HN.out.symm,AC HB.out (AC HB3.out hb4)⟩
          |true=>
           have HN:Hid (Dx true (Do x r)=R):=AA (by rw[<-HF.out,HST.out,HIN.out,q1,q2];rfl);rintro e4 w4 ⟨rfl,hb4⟩;have HB4:=AA (AC HB3.out hb4);have R3'':=AA (R3'.out.on hb4);clear hb4;go_wp2_with fail
           go_roundw;case rel=>exact⟨Do x r,by omega,R3''.out,fun y hy=>HSM.out y (List.mem_cons_of_mem _ (NV hy)),HN.out,AC HB.out HB4.out⟩
           case measure=>rw[R3''.out.lenV];show _<r.length+1;omega
        |false=>
         go_wp2_with fail
         refine(LA _ x r _ HM1.out HK.out.2.1 (by omega)).mono ?_;rintro e2 w2 ⟨v1,v2,v3,rfl,r1,r2,r3,hb2⟩;have R1:=AA r1;have R2:=AA r2;have R3:=AA r3;have HB2:=AA (AC HB1.out hb2);have N2:=AA (N1.out.on hb2);clear r1 r2 r3 hb2 z z0 z1 z2 z3 z4 z5 z6 z7 z8 N1;have z0:=N2.out.c0;go_wp2_with fail
         refine(IH.out _ l1 (Dn x r) v1 true _ rfl (by omega) (fun y hy=>HSM.out y (List.mem_cons_of_mem _ (NT hy))) R1.out (HTR.out.on HB2.out)).mono ?_;cases q1:Dx true (Dn x r)with
         |false=>
          have HN:Hid (R=false):=AA (by rw[<-HF.out,HST.out,HIN.out,q1];rfl);rintro e3 w3 ⟨rfl,hb3⟩;go_wp2_with fail
          go_ret;exact⟨AH HN.out.symm,AC HB.out (AC HB2.out hb3)⟩
         |true=>
          rintro e3 w3 ⟨rfl,hb3⟩;have HB3:=AA (AC HB2.out hb3);have R2':=AA (R2.out.on hb3);have R3':=AA (R3.out.on hb3);clear hb3 z0;go_wp2_with fail
          refine(IH.out _ l2 (Db x r) v2 true _ rfl (by omega) (fun y hy=>HSM.out y (List.mem_cons_of_mem _ (NU hy))) R2'.out (HTR.out.on HB3.out)).mono ?_;cases q2:Dx true (Db x r)with
          |false=>
           have HN:Hid (R=false):=AA (by rw[<-HF.out,HST.out,HIN.out,q1,q2];rfl);rintro e4 w4 ⟨rfl,hb4⟩;go_wp2_with fail
           go_ret;exact⟨AH HN.out.symm,AC HB.out (AC HB3.out hb4)⟩
          |true=>
           have HN:Hid (Dx true (Do x r)=R):=AA (by rw[<-HF.out,HST.out,HIN.out,q1,q2];rfl);rintro e4 w4 ⟨rfl,hb4⟩;have HB4:=AA (AC HB3.out hb4);have R3'':=AA (R3'.out.on hb4);clear hb4;go_wp2_with fail
           go_roundw;case rel=>exact⟨Do x r,by omega,R3''.out,fun y hy=>HSM.out y (List.mem_cons_of_mem _ (NV hy)),HN.out,AC HB.out HB4.out⟩
           case measure=>rw[R3''.out.lenV];show _<r.length+1;omega
       |false=>
        have c4:¬x.kind=13:=fun h=>c3 ⟨h,rfl⟩
        have c5:(x.kind==13)=false:=by simp[c4]
        clear c3 c4;by_cases c6:x.kind=12
        ·have c7:(x.kind==12)=true:=by simp[c6]
         have HIN:Hid ((false||decide (x.kind=12))=true):=AA (by simp[c6]);clear c6;go_wp2_with fail
         refine(LA _ x r _ HM1.out HK.out.2.1 (by omega)).mono ?_;rintro e2 w2 ⟨v1,v2,v3,rfl,r1,r2,r3,hb2⟩;have R1:=AA r1;have R2:=AA r2;have R3:=AA r3;have HB2:=AA (AC HB1.out hb2);have N2:=AA (N1.out.on hb2);clear r1 r2 r3 hb2 z z0 z1 z2 z3 z4 z5 z6 z7 z8 N1;have z0:=N2.out.c0;go_wp2_with fail
         refine(IH.out _ l1 (Dn x r) v1 true _ rfl (by omega) (fun y hy=>HSM.out y (List.mem_cons_of_mem _ (NT hy))) R1.out (HTR.out.on HB2.out)).mono ?_;cases q1:Dx true (Dn x r)with
         |false=>
          have HN:Hid (R=false):=AA (by rw[<-HF.out,HST.out,HIN.out,q1];rfl);rintro e3 w3 ⟨rfl,hb3⟩;go_wp2_with fail
          go_ret;exact⟨AH HN.out.symm,AC HB.out (AC HB2.out hb3)⟩
         |true=>
          rintro e3 w3 ⟨rfl,hb3⟩;have HB3:=AA (AC HB2.out hb3);have R2':=AA (R2.out.on hb3);have R3':=AA (R3.out.on hb3);clear hb3 z0;go_wp2_with fail
          refine(IH.out _ l2 (Db x r) v2 false _ rfl (by omega) (fun y hy=>HSM.out y (List.mem_cons_of_mem _ (NU hy))) R2'.out (HTR.out.on HB3.out)).mono ?_;cases q2:Dx false (Db x r)with
          |false=>
           have HN:Hid (R=false):=AA (by rw[<-HF.out,HST.out,HIN.out,q1,q2];rfl);rintro e4 w4 ⟨rfl,hb4⟩;go_wp2_with fail
           go_ret;exact⟨AH HN.out.symm,AC HB.out (AC HB3.out hb4)⟩
          |true=>
           have HN:Hid (Dx false (Do x r)=R):=AA (by rw[<-HF.out,HST.out,HIN.out,q1,q2];rfl);rintro e4 w4 ⟨rfl,hb4⟩;have HB4:=AA (AC HB3.out hb4);have R3'':=AA (R3'.out.on hb4);clear hb4;go_wp2_with fail
           go_roundw;case rel=>exact⟨Do x r,by omega,R3''.out,fun y hy=>HSM.out y (List.mem_cons_of_mem _ (NV hy)),HN.out,AC HB.out HB4.out⟩
           case measure=>rw[R3''.out.lenV];show _<r.length+1;omega
        ·have c7:(x.kind==12)=false:=by simp[c6]
         have HIN:Hid ((false||decide (x.kind=12))=false):=AA (by simp[c6]);clear c6;go_wp2_with fail
         refine(LA _ x r _ HM1.out HK.out.2.1 (by omega)).mono ?_;rintro e2 w2 ⟨v1,v2,v3,rfl,r1,r2,r3,hb2⟩;have R1:=AA r1;have R2:=AA r2;have R3:=AA r3;have HB2:=AA (AC HB1.out hb2);have N2:=AA (N1.out.on hb2);clear r1 r2 r3 hb2 z z0 z1 z2 z3 z4 z5 z6 z7 z8 N1;have z0:=N2.out.c0;go_wp2_with fail
         refine(IH.out _ l1 (Dn x r) v1 false _ rfl (by omega) (fun y hy=>HSM.out y (List.mem_cons_of_mem _ (NT hy))) R1.out (HTR.out.on HB2.out)).mono ?_;cases q1:Dx false (Dn x r)with
         |false=>
          have HN:Hid (R=false):=AA (by rw[<-HF.out,HST.out,HIN.out,q1];rfl);rintro e3 w3 ⟨rfl,hb3⟩;go_wp2_with fail
          go_ret;exact⟨AH HN.out.symm,AC HB.out (AC HB2.out hb3)⟩
         |true=>
          rintro e3 w3 ⟨rfl,hb3⟩;have HB3:=AA (AC HB2.out hb3);have R2':=AA (R2.out.on hb3);have R3':=AA (R3.out.on hb3);clear hb3 z0;go_wp2_with fail
          refine(IH.out _ l2 (Db x r) v2 false _ rfl (by omega) (fun y hy=>HSM.out y (List.mem_cons_of_mem _ (NU hy))) R2'.out (HTR.out.on HB3.out)).mono ?_;cases q2:Dx false (Db x r)with
          |false=>
           have HN:Hid (R=false):=AA (by rw[<-HF.out,HST.out,HIN.out,q1,q2];rfl);rintro e4 w4 ⟨rfl,hb4⟩;go_wp2_with fail
           go_ret;exact⟨AH HN.out.symm,AC HB.out (AC HB3.out hb4)⟩
          |true=>
           have HN:Hid (Dx false (Do x r)=R):=AA (by rw[<-HF.out,HST.out,HIN.out,q1,q2];rfl);rintro e4 w4 ⟨rfl,hb4⟩;have HB4:=AA (AC HB3.out hb4);have R3'':=AA (R3'.out.on hb4);clear hb4;go_wp2_with fail
           go_roundw;case rel=>exact⟨Do x r,by omega,R3''.out,fun y hy=>HSM.out y (List.mem_cons_of_mem _ (NV hy)),HN.out,AC HB.out HB4.out⟩
           case measure=>rw[R3''.out.lenV];show _<r.length+1;omega
theorem QBx:∀n,QZ n:=by
 intro n
 induction n using Nat.strongRecOn with
 |_ n ih=>exact Zo n ih
end Go.Proofs.YthfkpalfopdmhaaGreatDoor
