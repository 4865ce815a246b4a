/- Texts of the walk, packed. -/
import Derived.Test.YthfkpalfopdmhaaGreatDoorW29
import Derived.Test.YthfkpalfopdmhaaGreatDoorW38
import Derived.Test.YthfkpalfopdmhaaGreatDoorW43
import Derived.BigQuiet
import Derived.Test.YthfkpalfopdmhaaGreatDoorW00
namespace Go.Proofs.YthfkpalfopdmhaaGreatDoor
open Go.RowKit
structure Later (w:World) where
 W:World
 h:Below w.heap.size w W
instance (w:World):Nonempty (Later w):=⟨⟨w,Below.refl _ _⟩⟩
theorem Later.on {w:World} (u:Later w):Below w.heap.size w u.W:=u.h
theorem C9 {P:Program} {id:Nat} {Q:Exit->Act->World->Prop} {a:Act} {w:World} {l:List Oper} (hm:P.follows .mixedOrders=true) (hB:Region.lexB .any l.toArray=true)
  (h:wpQuiet P l.toArray (fun w'=>∃u:Later w,w'=u.W) (fun a'=>∀w',(∃u:Later w,w'=u.W)->Q .normal a' w') l a):(Code.region id l.toArray true).wp P Q a w:=
 wp_region_quiet (C:=fun w'=>∃u:Later w,w'=u.W) hm hB ⟨⟨_,AD w⟩,rfl⟩ (by simpa using h)
theorem QFn {w:World} {B g n c k:Nat} {K:List Tv} {a:Tv} (h:Ci w B (.slice (some ⟨g,0,none⟩) n c) K) (ha:K[k]?=some a):
  w.cell? ⟨g,k*4,none⟩=some (.string ⟨a.t.name.toArray⟩)/\w.cell? ⟨g,k*4+1,none⟩=some a.vR/\w.cell? ⟨g,k*4+2,none⟩=some a.vB/\w.cell? ⟨g,k*4+3,none⟩=some (.int .i64 a.t.pl):=by
 obtain⟨A,c2,hv,_,_,hr⟩:=h.reads;obtain⟨g2,hA,_,_,x0,x1,x2,x3⟩:=hr k a ha;simp only[Value.slice.injEq]at hv;rw[hA]at hv;have:g=g2:=by simpa using hv.1
 subst this;exact⟨x0,x1,x2,x3⟩
theorem Yr {w:World} {B n c j:Nat} {A:Option Addr} {l:List (List UInt8)} {s:List UInt8} (h:CS w B (.slice A n c) l) (hj:l[j]?=some s):∃g,A=some ⟨g,0,none⟩/\w.cell? ⟨g,j,none⟩=some (.string ⟨s.toArray⟩):=by
 obtain⟨A2,c2,hv,_,_,hr⟩:=h.reads;obtain⟨g2,hA,_,_,x0⟩:=hr j s hj;simp only[Value.slice.injEq]at hv;exact⟨g2,hv.1.trans hA,x0⟩
set_option maxRecDepth 100000 in
set_option maxHeartbeats 16000000 in
theorem QA8 (p:Bool) {v1 v2:Value} {L M:List Tv} {w:World} {B B':Nat} (h1:Ci w B v1 L) (h2:Ci w B' v2 M) (hl:L.length<=10000) (hs:∀x∈L,(∀y∈x.t.body,Fb y)/\x.t.body.length<=10000/\x.t.regs.length<=10000):
  Calls Tryz.prog 32 #[v1,v2,.bool p] w (AK (Ae (fun x y=>CH p x.t y.t) L M) w):=by
 have HO1:=AA h1;have HO2:=AA h2;have HSM:=AA hs;obtain⟨A,c,rfl,hc,_,_⟩:=h1.reads;obtain⟨A',c',rfl,hc',_,_⟩:=h2.reads;clear h1 h2 hs;by_cases hL:L.length=M.length
 ·rw[<-hL]at HO2 hc'⊢;have HL:=AA hL;have HM:=AA (show∀k,k<L.length->k<M.length by rw[hL];exact fun _ h=>h);clear hL;go_enter Tryz.func32,Tryz.ntmps32;go_wp2_with fail
  go_loopw [7] (fun i wr=>∃k:Nat,k<=L.length/\i=.int .i64 k/\Below w.heap.size w wr/\Ae (fun x y=>CH p x.t y.t) (L.take k) (M.take k)=true) (fun i _=>L.length-(intOf i).toNat)
  case atStart=>exact⟨0,Nat.zero_le _,rfl,Below.refl _ _,rfl⟩
  case round=>
   obtain⟨k,hk,rfl,hbel,hs⟩:=hrel;have HS:=AA hs;have HB:=AA hbel;clear hs;by_cases hlt:k<L.length
   ·have hkm:=HM.out k hlt;have ha:L[k]?=some L[k]:=List.getElem?_eq_getElem hlt;have hb:M[k]?=some (M[k]'hkm):=List.getElem?_eq_getElem hkm
    have hsa:=HSM.out L[k] (List.getElem_mem hlt);have hs1:=(HO1.out.on hbel).sub L[k] (List.getElem_mem hlt);have hs2:=(HO2.out.on hbel).sub (M[k]'hkm) (List.getElem_mem hkm)
    generalize L[k]=a at *;generalize M[k]'hkm=b at *
    obtain⟨A2,c2,hv,_,_,hr⟩:=(HO1.out.on hbel).reads;obtain⟨rfl,_,rfl⟩:A=A2/\True/\c=c2:=by simpa using hv
    obtain⟨A2',c2',hv',_,_,hr'⟩:=(HO2.out.on hbel).reads;obtain⟨rfl,rfl⟩:A'=A2'/\c'=c2':=by simp only[Value.slice.injEq]at hv';exact⟨hv'.1,hv'.2.2⟩
    obtain⟨g,rfl,_,hg,x0,x1,x2,x3⟩:=hr k a ha;obtain⟨g',rfl,_,hg',y0,y1,y2,y3⟩:=hr' k b hb;have HN:=AA (fun h=>DD (q:=fun x y=>CH p x.t y.t) ha hb h);have HY:=AA (Bz (q:=fun x y=>CH p x.t y.t) ha hb);have HAT:=AA (fun W' (hb':Below wr.heap.size wr W')=>And.intro (QFn (HO1.out.on (AC hbel hb')) ha) (QFn (HO2.out.on (AC hbel hb')) hb));have HRA:=AA hs1.1;have HRB:=AA hs2.1
    have HCB:=AA (fun W' (hb':Below wr.heap.size wr W')=>X2 p a.vB b.vB a.t.body b.t.body W' (hs1.2.keepT (AG.of (P:=fun _=>False) hb') Av.none).read (hs2.2.keepT (AG.of (P:=fun _=>False) hb') Av.none).read hsa.2.1 hsa.1);obtain⟨AR,cR,hvR,hcR, -⟩:=hs1.1.reads;obtain⟨BR,dR,hvR',hcR', -⟩:=hs2.1.reads;obtain⟨AB,cB,hvB⟩:=hs1.2.slice;obtain⟨BB,dB,hvB'⟩:=hs2.2.slice;rw[hvR]at x1 HRA HAT;rw[hvR']at y1 HRB HAT;rw[hvB]at x2 HCB HAT;rw[hvB']at y2 HCB HAT;have hlt':=hlt;have hrl:a.t.regs.length<=10000:=hsa.2.2;obtain⟨nB,hnB⟩:∃n,a.t.body.length=n:=⟨_,rfl⟩
    obtain⟨mB,hmB⟩:∃n,b.t.body.length=n:=⟨_,rfl⟩
    rw[hnB]at x2 HCB HAT;rw[hmB]at y2 HCB HAT;clear ha hb hr hr' hv hv' hvR hvR' hvB hvB' hs1 hs2 hsa hnB hmB HO1 HO2 HSM;cases e1:(a.t.name==b.t.name)with
    |false=>
     have HQ:Hid (CH p a.t b.t=false):=AA (by unfold CH;simp at e1;simp[e1]);go_wp2_with fail
     go_quiet (fail)
     go_wp2_with fail
     go_ret;exact⟨AH (HN.out HQ.out).symm,AC HB.out (AM _ _)⟩
    |true=>
     by_cases hln:a.t.regs.length=b.t.regs.length
     ·have hlne:((a.t.regs.length:Int) != (a.t.regs.length:Int))=false:=by simp
      have HLN:=AA hln;rw[<-hln]at y1 HRB HAT;obtain⟨V,hV⟩:∃V,MG p a.t.body b.t.body=V:=⟨_,rfl⟩
      rw[hV]at HCB;have HV:=AA hV;have SW:=AA (fun W' (hb:Below wr.heap.size wr W')=>show W'.cell? ⟨g,k*4,none⟩=some (.string ⟨a.t.name.toArray⟩)/\W'.cell? ⟨g,k*4+1,none⟩=some (.slice AR a.t.regs.length cR)/\W'.cell? ⟨g,k*4+2,none⟩=some (.slice AB nB cB)/\W'.cell? ⟨g,k*4+3,none⟩=some (.int .i64 a.t.pl)/\W'.cell? ⟨g',k*4,none⟩=some (.string ⟨b.t.name.toArray⟩)/\W'.cell? ⟨g',k*4+1,none⟩=some (.slice BR a.t.regs.length dR)/\W'.cell? ⟨g',k*4+2,none⟩=some (.slice BB mB dB)/\W'.cell? ⟨g',k*4+3,none⟩=some (.int .i64 b.t.pl)from by
       obtain⟨⟨q0,q1,q2,q3⟩,⟨r0,r1,r2,r3⟩⟩:=HAT.out W' hb;exact⟨q0,q1,q2,q3,r0,r1,r2,r3⟩)
      have S0:=SW.out wr (Below.refl _ _);have l0:∀u:Later wr,u.W.cell? ⟨g,k*4,none⟩=some (.string ⟨a.t.name.toArray⟩):=fun u=>(SW.out u.W u.h).1
      have l1:∀u:Later wr,u.W.cell? ⟨g,k*4+1,none⟩=some (.slice AR a.t.regs.length cR):=fun u=>(SW.out u.W u.h).2.1
      have l2:∀u:Later wr,u.W.cell? ⟨g,k*4+2,none⟩=some (.slice AB nB cB):=fun u=>(SW.out u.W u.h).2.2.1
      have l3:∀u:Later wr,u.W.cell? ⟨g,k*4+3,none⟩=some (.int .i64 a.t.pl):=fun u=>(SW.out u.W u.h).2.2.2.1
      have l4:∀u:Later wr,u.W.cell? ⟨g',k*4,none⟩=some (.string ⟨b.t.name.toArray⟩):=fun u=>(SW.out u.W u.h).2.2.2.2.1
      have l5:∀u:Later wr,u.W.cell? ⟨g',k*4+1,none⟩=some (.slice BR a.t.regs.length dR):=fun u=>(SW.out u.W u.h).2.2.2.2.2.1
      have l6:∀u:Later wr,u.W.cell? ⟨g',k*4+2,none⟩=some (.slice BB mB dB):=fun u=>(SW.out u.W u.h).2.2.2.2.2.2.1
      have l7:∀u:Later wr,u.W.cell? ⟨g',k*4+3,none⟩=some (.int .i64 b.t.pl):=fun u=>(SW.out u.W u.h).2.2.2.2.2.2.2
      clear hV hln;cases p with
      |false=>
       go_upto_region 6 with(fail)
       clear S0 x0 x1 x2 x3 y0 y1 y2 y3;refine C9 (by kernel_rfl) (by kernel_rfl) ?_;repeat(go_big_quiet_step ((refine(HCB.out _ (Later.on _)).mono ?_;rintro e1 w1 ⟨rfl,hb1⟩;exact⟨rfl,Later.mk w1 (AC (Later.on _) hb1),rfl⟩)))
       refine wpQuiet_nil ?_;rintro _ ⟨⟨w1,B1⟩,rfl⟩;have HB1:=AA B1;have HBW:=AA (AC HB.out B1);cases V with
       |false=>
        have HQ:Hid (CH false a.t b.t=false):=AA (by unfold CH;rw[HV.out];simp);go_wp2_with fail
        go_ret;exact⟨AH (HN.out HQ.out).symm,by first|exact HBW.out|exact AC HBW.out (AD _)⟩
       |true=>
        have HEQ:Hid (CH false a.t b.t=Ot a.t.regs b.t.regs):=AA (by unfold CH;rw[HV.out];simp at e1;simp[e1]);clear l0 l1 l2 l3 l4 l5 l6 l7;go_wp2_with fail
        go_loopw [8] (fun j wi=>∃jj:Nat,jj<=a.t.regs.length/\j=.int .i64 jj/\Below wr.heap.size wr wi/\Ae (fun x y=>x==y) (a.t.regs.take jj) (b.t.regs.take jj)=true) (fun j _=>a.t.regs.length-(intOf j).toNat)
        case atStart=>exact⟨0,Nat.zero_le _,rfl,by first|exact HB1.out|exact AC HB1.out (AD _),rfl⟩
        case round=>
         clear HB1;obtain⟨jj,hjj,rfl,hbi,hsi⟩:=hrel;have HSI:=AA hsi;have HBI:=AA (AC HB.out hbi);have HBJ:=AA hbi;obtain⟨⟨-,x1, -, -⟩,⟨-,y1, -, -⟩⟩:=HAT.out _ hbi;clear hsi;by_cases hjlt:jj<a.t.regs.length
         ·have hjm:jj<b.t.regs.length:=by rw[<-HLN.out];exact hjlt
          have hja:a.t.regs[jj]?=some a.t.regs[jj]:=List.getElem?_eq_getElem hjlt;have hjb:b.t.regs[jj]?=some (b.t.regs[jj]'hjm):=List.getElem?_eq_getElem hjm
          generalize a.t.regs[jj]=sa at *;generalize b.t.regs[jj]'hjm=sb at *
          obtain⟨ga,rfl,xa⟩:=Yr (HRA.out.on hbi) hja;obtain⟨gb,rfl,xb⟩:=Yr (HRB.out.on hbi) hjb;have HNJ:=AA (fun h=>DD (q:=fun x y=>x==y) hja hjb h);have HYJ:=AA (Bz (q:=fun x y=>x==y) hja hjb);have hj0:(0:Int)<=(jj:Int):=by omega
          have hj1:(jj:Int)<(a.t.regs.length:Int):=by omega
          clear hja hjb hbi;cases e5:(sa==sb)with
          |false=>
           have HQ:Hid (CH false a.t b.t=false):=AA (by rw[HEQ.out];exact HNJ.out e5);go_wp2_with fail
           go_quiet (fail)
           go_wp2_with fail
           go_ret;exact⟨AH (HN.out HQ.out).symm,AC HBI.out (AM _ _)⟩
          |true=>
           have HQJ:=AA e5;go_wp2_with fail
           go_quiet (fail)
           go_wp2_with fail
           go_roundw;case rel=>exact⟨jj+1,by omega,by go_num,AC HBJ.out (AM _ _),by rw[HYJ.out,HSI.out,HQJ.out];rfl⟩
           case measure=>simp[intOf];omega
         ·have HQ:Hid (CH false a.t b.t=true):=AA (by rw[HEQ.out];exact Cb (by omega) HLN.out HSI.out);clear hbi;go_wp2_with fail
          go_roundw;case rel=>exact⟨k+1,by omega,by go_num,HBI.out,by rw[HY.out,HS.out,HQ.out];rfl⟩
          case measure=>simp[intOf];omega
      |true=>
       cases e3:(a.t.pl != b.t.pl)with
       |true=>
        have HQ:Hid (CH true a.t b.t=false):=AA (by unfold CH;simp at e3;simp[e3]);clear S0 l0 l1 l2 l3 l4 l5 l6 l7;go_wp2_with fail
        go_quiet (fail)
        go_wp2_with fail
        go_ret;exact⟨AH (HN.out HQ.out).symm,AC HB.out (AM _ _)⟩
       |false=>
        go_upto_region 6 with(fail)
        clear S0 x0 x1 x2 x3 y0 y1 y2 y3;refine C9 (by kernel_rfl) (by kernel_rfl) ?_;repeat(go_big_quiet_step ((refine(HCB.out _ (Later.on _)).mono ?_;rintro e1 w1 ⟨rfl,hb1⟩;exact⟨rfl,Later.mk w1 (AC (Later.on _) hb1),rfl⟩)))
        refine wpQuiet_nil ?_;rintro _ ⟨⟨w1,B1⟩,rfl⟩;have HB1:=AA B1;have HBW:=AA (AC HB.out B1);cases V with
        |false=>
         have HQ:Hid (CH true a.t b.t=false):=AA (by unfold CH;rw[HV.out];simp);go_wp2_with fail
         go_ret;exact⟨AH (HN.out HQ.out).symm,by first|exact HBW.out|exact AC HBW.out (AD _)⟩
        |true=>
         have HEQ:Hid (CH true a.t b.t=Ot a.t.regs b.t.regs):=AA (by unfold CH;rw[HV.out];simp at e1 e3;simp[e1,e3]);clear l0 l1 l2 l3 l4 l5 l6 l7;go_wp2_with fail
         go_loopw [8] (fun j wi=>∃jj:Nat,jj<=a.t.regs.length/\j=.int .i64 jj/\Below wr.heap.size wr wi/\Ae (fun x y=>x==y) (a.t.regs.take jj) (b.t.regs.take jj)=true) (fun j _=>a.t.regs.length-(intOf j).toNat)
         case atStart=>exact⟨0,Nat.zero_le _,rfl,by first|exact HB1.out|exact AC HB1.out (AD _),rfl⟩
         case round=>
          clear HB1;obtain⟨jj,hjj,rfl,hbi,hsi⟩:=hrel;have HSI:=AA hsi;have HBI:=AA (AC HB.out hbi);have HBJ:=AA hbi;obtain⟨⟨-,x1, -, -⟩,⟨-,y1, -, -⟩⟩:=HAT.out _ hbi;clear hsi;by_cases hjlt:jj<a.t.regs.length
          ·have hjm:jj<b.t.regs.length:=by rw[<-HLN.out];exact hjlt
           have hja:a.t.regs[jj]?=some a.t.regs[jj]:=List.getElem?_eq_getElem hjlt;have hjb:b.t.regs[jj]?=some (b.t.regs[jj]'hjm):=List.getElem?_eq_getElem hjm
           generalize a.t.regs[jj]=sa at *;generalize b.t.regs[jj]'hjm=sb at *
           obtain⟨ga,rfl,xa⟩:=Yr (HRA.out.on hbi) hja;obtain⟨gb,rfl,xb⟩:=Yr (HRB.out.on hbi) hjb;have HNJ:=AA (fun h=>DD (q:=fun x y=>x==y) hja hjb h);have HYJ:=AA (Bz (q:=fun x y=>x==y) hja hjb);have hj0:(0:Int)<=(jj:Int):=by omega
           have hj1:(jj:Int)<(a.t.regs.length:Int):=by omega
           clear hja hjb hbi;cases e5:(sa==sb)with
           |false=>
            have HQ:Hid (CH true a.t b.t=false):=AA (by rw[HEQ.out];exact HNJ.out e5);go_wp2_with fail
            go_quiet (fail)
            go_wp2_with fail
            go_ret;exact⟨AH (HN.out HQ.out).symm,AC HBI.out (AM _ _)⟩
           |true=>
            have HQJ:=AA e5;go_wp2_with fail
            go_quiet (fail)
            go_wp2_with fail
            go_roundw;case rel=>exact⟨jj+1,by omega,by go_num,AC HBJ.out (AM _ _),by rw[HYJ.out,HSI.out,HQJ.out];rfl⟩
            case measure=>simp[intOf];omega
          ·have HQ:Hid (CH true a.t b.t=true):=AA (by rw[HEQ.out];exact Cb (by omega) HLN.out HSI.out);clear hbi;go_wp2_with fail
           go_roundw;case rel=>exact⟨k+1,by omega,by go_num,HBI.out,by rw[HY.out,HS.out,HQ.out];rfl⟩
           case measure=>simp[intOf];omega
     ·have hlnb:((a.t.regs.length:Int) != (b.t.regs.length:Int))=true:=by simp;omega
      have HQ:Hid (CH p a.t b.t=false):=AA (by
       have:Ot a.t.regs b.t.regs=false:=CZ hln;unfold CH;rw[this];simp)
      go_wp2_with fail
      go_quiet (fail)
      go_wp2_with fail
      go_ret;exact⟨AH (HN.out HQ.out).symm,AC HB.out (AM _ _)⟩
   ·have HQ:=AA (Cb (by omega) HL.out HS.out);go_wp2_with fail
    go_ret;exact⟨AH HQ.out.symm,HB.out⟩
 ·have HQ:=AA (CZ (q:=fun x y=>CH p x.t y.t) hL);have hd:((L.length:Int) != (M.length:Int))=true:=by simp;omega
  clear hL;go_enter Tryz.func32,Tryz.ntmps32;go_wp2_with fail
  go_ret;exact⟨AH HQ.out.symm,Below.refl _ _⟩
end Go.Proofs.YthfkpalfopdmhaaGreatDoor
