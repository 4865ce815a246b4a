/- Texts of the walk, packed. -/
import Derived.Test.YthfkpalfopdmhaaGreatDoorW14
import Derived.Test.YthfkpalfopdmhaaGreatDoorW13
import Derived.Deep.RegionHeld3
import Derived.Deep.Cut
import Derived.BigGuard
import Derived.Test.YthfkpalfopdmhaaGreatDoorW00
namespace Go.Proofs.YthfkpalfopdmhaaGreatDoor
open Go.RowKit
def Ul (b:Bool) (w:World) (e:Ending) (w':World):Prop:=e=.returned (.bool b)/\∃n,w'=w.drewN n
theorem I0 (w:World) (a b:Nat):∃n,(w.drewN a).drewN b=w.drewN n:=⟨a+b,World.drewN_drewN _ _ _⟩
set_option maxRecDepth 100000 in
set_option maxHeartbeats 4000000 in
theorem Yq (p:Bool) (v1 v2:Value) (L M:List Nod) (w:World) (h1:Ax w v1 L) (h2:Ax w v2 M) (hl:L.length<=10000):
  Calls Tryz.prog 31 #[v1,v2,.bool p] w (Ul (E9 p L M) w):=by
 obtain⟨A,c,rfl,hc,_,hr1⟩:=h1;obtain⟨A',c',rfl,hc',_,hr2⟩:=h2;have HR1:=AA hr1;have HR2:=AA hr2;clear hr1 hr2;by_cases hL:L.length=M.length
 ·rw[<-hL];have HL:=AA hL;have hkM:∀k,k<L.length->k<M.length:=by rw[hL];exact fun _ h=>h
  have HM:=AA hkM;clear hL hkM;go_enter Tryz.func31,Tryz.ntmps31;go_wp2_with fail
  go_loopw [7] (fun i wr=>∃k n:Nat,k<=L.length/\i=.int .i64 k/\wr=w.drewN n/\Ae (En p) (L.take k) (M.take k)=true) (fun i _=>L.length-(intOf i).toNat)
  case atStart=>exact⟨0,0,Nat.zero_le _,rfl,rfl,rfl⟩
  case round=>
   obtain⟨k,n,hk,rfl,rfl,hs⟩:=hrel;have HS:=AA hs;clear hs;by_cases hlt:k<L.length
   ·have hkm:=HM.out k hlt;have ha:L[k]?=some L[k]:=List.getElem?_eq_getElem hlt;have hb:M[k]?=some (M[k]'hkm):=List.getElem?_eq_getElem hkm
    generalize L[k]=a at *;generalize M[k]'hkm=b at *
    obtain⟨g,o,rfl,hg,x0,x1,x2,x3⟩:=HR1.out k a ha;obtain⟨g',o',rfl,hg',y0,y1,y2,y3⟩:=HR2.out k b hb;have HN:=AA (fun h=>DD (q:=En p) ha hb h);have HY:=AA (Bz (q:=En p) ha hb);clear ha hb;cases e1:(a.op != b.op)with
    |true=>
     have HQ:Hid (En p a b=false):=AA (by unfold En;simp at e1;simp[e1]);go_wp2_with fail
     go_quiet (fail)
     go_wp2_with fail
     go_ret;exact⟨AH (HN.out HQ.out).symm,I0 _ _ _⟩
    |false=>
     cases e2:(a.n != b.n)with
     |true=>
      have HQ:Hid (En p a b=false):=AA (by unfold En;simp at e2;simp[e2]);go_wp2_with fail
      go_quiet (fail)
      go_wp2_with fail
      go_ret;exact⟨AH (HN.out HQ.out).symm,I0 _ _ _⟩
     |false=>
      cases e3:(a.name==b.name)with
      |false=>
       have HQ:Hid (En p a b=false):=AA (by unfold En;simp at e3;simp[e3]);go_wp2_with fail
       go_quiet (fail)
       go_wp2_with fail
       go_ret;exact⟨AH (HN.out HQ.out).symm,I0 _ _ _⟩
      |true=>
       cases p with
       |false=>
        have HQ:Hid (En false a b=true):=AA (by unfold En;simp at e1 e2 e3;simp[e1,e2,e3]);go_wp2_with fail
        go_quiet (fail)
        go_wp2_with fail
        go_roundw;case rel=>exact⟨k+1,_,by omega,by go_num,rfl,by rw[HY.out,HS.out,HQ.out];rfl⟩
        case measure=>simp[intOf];omega
       |true=>
        cases e4:(a.pl != b.pl)with
        |true=>
         have HQ:Hid (En true a b=false):=AA (by unfold En;simp at e4;simp[e4]);go_wp2_with fail
         go_quiet (fail)
         go_wp2_with fail
         go_ret;exact⟨AH (HN.out HQ.out).symm,I0 _ _ _⟩
        |false=>
         have HQ:Hid (En true a b=true):=AA (by unfold En;simp at e1 e2 e3 e4;simp[e1,e2,e3,e4]);go_wp2_with fail
         go_quiet (fail)
         go_wp2_with fail
         go_roundw;case rel=>exact⟨k+1,_,by omega,by go_num,rfl,by rw[HY.out,HS.out,HQ.out];rfl⟩
         case measure=>simp[intOf];omega
   ·have HQ:=AA (Cb (by omega) HL.out HS.out);go_wp2_with fail
    go_ret;exact⟨AH HQ.out.symm,⟨_,rfl⟩⟩
 ·have HQ:=AA (CZ (q:=En p) hL);have hd:((L.length:Int) != (M.length:Int))=true:=by simp;omega
  clear hL;go_enter Tryz.func31,Tryz.ntmps31;go_wp2_with fail
  go_ret;exact⟨AH HQ.out.symm,⟨0,rfl⟩⟩
abbrev QFm (w:World) (b:Nat) (x:Stm) (AE:Option Addr) (nE cE:Nat) (AF:Option Addr) (nF cF:Nat):Prop:=
 Zd w b (.int .i64 x.kind) (.string ⟨x.reg.toArray⟩) (.string ⟨x.name.toArray⟩) (.slice AE nE cE) (.slice AF nF cF) (.int .i64 x.n) (.int .i64 x.body) (.int .i64 x.els) (.int .i64 x.pl)
def QDZ (wr:World) (a b:Stm) (AE:Option Addr) (nE cE:Nat) (AF:Option Addr) (nF cF:Nat) (BE:Option Addr) (mE dE:Nat) (BF:Option Addr) (mF dF:Nat) (u v:Value) (wx:World):Prop:=
 ∃p q,u=.pointer (some ⟨p,0,none⟩)/\v=.pointer (some ⟨q,0,none⟩)/\QFm wx p a AE nE cE AF nF cF/\QFm wx q b BE mE dE BF mF dF/\Below wr.heap.size wr wx
theorem QA6 {w w':World} (h:Below w.heap.size w w'):Below w.heap.size w w'.drew:=AC h (AD _)
theorem DO (p:Bool) (x y:Stm):DT p x y=(x.kind==y.kind&&x.reg==y.reg&&x.name==y.name&&x.n==y.n&&x.body==y.body&&x.els==y.els&&(!p||x.pl==y.pl)&&E9 p x.e y.e&&E9 p x.f y.f):=by
 unfold DT;cases x.kind==y.kind<;>cases x.reg==y.reg<;>cases x.name==y.name<;>cases x.n==y.n<;>cases x.body==y.body<;>cases x.els==y.els<;>cases p<;>cases x.pl==y.pl<;>cases E9 _ x.e y.e<;>cases E9 _ x.f y.f<;>rfl
theorem QA7 {wr w1:World} {g g' o o' k:Nat} {a b:Stm} {AE:Option Addr} {nE cE:Nat} {AF:Option Addr} {nF cF:Nat} {BE:Option Addr} {mE dE:Nat} {BF:Option Addr} {mF dF:Nat}
  (h1:At9 wr g (o+k*9) a AE nE cE AF nF cF) (h2:At9 wr g' (o'+k*9) b BE mE dE BF mF dF) (hb:Below wr.heap.size wr w1):w1.cell? ⟨g,o+k*9,none⟩=some (.int .i64 a.kind)/\w1.cell? ⟨g,o+k*9+1,none⟩=some (.string ⟨a.reg.toArray⟩)/\w1.cell? ⟨g,o+k*9+2,none⟩=some (.string ⟨a.name.toArray⟩)/\w1.cell? ⟨g,o+k*9+3,none⟩=some (.slice AE nE cE)/\w1.cell? ⟨g,o+k*9+4,none⟩=some (.slice AF nF cF)/\w1.cell? ⟨g,o+k*9+5,none⟩=some (.int .i64 a.n)/\w1.cell? ⟨g,o+k*9+6,none⟩=some (.int .i64 a.body)/\w1.cell? ⟨g,o+k*9+7,none⟩=some (.int .i64 a.els)/\w1.cell? ⟨g,o+k*9+8,none⟩=some (.int .i64 a.pl)/\w1.cell? ⟨g',o'+k*9,none⟩=some (.int .i64 b.kind)/\w1.cell? ⟨g',o'+k*9+1,none⟩=some (.string ⟨b.reg.toArray⟩)/\w1.cell? ⟨g',o'+k*9+2,none⟩=some (.string ⟨b.name.toArray⟩)/\w1.cell? ⟨g',o'+k*9+3,none⟩=some (.slice BE mE dE)/\w1.cell? ⟨g',o'+k*9+4,none⟩=some (.slice BF mF dF)/\w1.cell? ⟨g',o'+k*9+5,none⟩=some (.int .i64 b.n)/\w1.cell? ⟨g',o'+k*9+6,none⟩=some (.int .i64 b.body)/\w1.cell? ⟨g',o'+k*9+7,none⟩=some (.int .i64 b.els)/\w1.cell? ⟨g',o'+k*9+8,none⟩=some (.int .i64 b.pl)/\Below wr.heap.size wr w1:=by
 obtain⟨_,x0,x1,x2,x3,x4,x5,x6,x7,x8,_,_⟩:=h1.on hb;obtain⟨_,y0,y1,y2,y3,y4,y5,y6,y7,y8,_,_⟩:=h2.on hb;exact⟨x0,x1,x2,x3,x4,x5,x6,x7,x8,y0,y1,y2,y3,y4,y5,y6,y7,y8,hb⟩
theorem WE (wr:World) (a b:Stm) (AE:Option Addr) (nE cE:Nat) (AF:Option Addr) (nF cF:Nat) (BE:Option Addr) (mE dE:Nat) (BF:Option Addr) (mF dF:Nat):
  QDZ wr a b AE nE cE AF nF cF BE mE dE BF mF dF (.pointer (some ⟨wr.heap.size,0,none⟩)) (.pointer (some ⟨wr.heap.size+1,0,none⟩)) ((wr.alloc (.cells #[.int .i64 a.kind,.string ⟨a.reg.toArray⟩,.string ⟨a.name.toArray⟩,.slice AE nE cE,.slice AF nF cF,.int .i64 a.n,.int .i64 a.body,.int .i64 a.els,.int .i64 a.pl] 44)).alloc (.cells #[.int .i64 b.kind,.string ⟨b.reg.toArray⟩,.string ⟨b.name.toArray⟩,.slice BE mE dE,.slice BF mF dF,.int .i64 b.n,.int .i64 b.body,.int .i64 b.els,.int .i64 b.pl] 44)).drew:=by
 have h1:=Ea wr (.int .i64 a.kind) (.string ⟨a.reg.toArray⟩) (.string ⟨a.name.toArray⟩) (.slice AE nE cE) (.slice AF nF cF) (.int .i64 a.n) (.int .i64 a.body) (.int .i64 a.els) (.int .i64 a.pl) 44;have h2:=(Below.refl wr.heap.size wr).alloc (Nat.le_refl _) (.cells #[.int .i64 a.kind,.string ⟨a.reg.toArray⟩,.string ⟨a.name.toArray⟩,.slice AE nE cE,.slice AF nF cF,.int .i64 a.n,.int .i64 a.body,.int .i64 a.els,.int .i64 a.pl] 44);have hz:wr.heap.size+1=(wr.alloc (.cells #[.int .i64 a.kind,.string ⟨a.reg.toArray⟩,.string ⟨a.name.toArray⟩,.slice AE nE cE,.slice AF nF cF,.int .i64 a.n,.int .i64 a.body,.int .i64 a.els,.int .i64 a.pl] 44)).heap.size:=by simp
 rw[hz];generalize wr.alloc (.cells #[.int .i64 a.kind,.string ⟨a.reg.toArray⟩,.string ⟨a.name.toArray⟩,.slice AE nE cE,.slice AF nF cF,.int .i64 a.n,.int .i64 a.body,.int .i64 a.els,.int .i64 a.pl] 44)=X at *;have h3:=Ea X (.int .i64 b.kind) (.string ⟨b.reg.toArray⟩) (.string ⟨b.name.toArray⟩) (.slice BE mE dE) (.slice BF mF dF) (.int .i64 b.n) (.int .i64 b.body) (.int .i64 b.els) (.int .i64 b.pl) 44;have h4:=(Below.refl X.heap.size X).alloc (Nat.le_refl _) (.cells #[.int .i64 b.kind,.string ⟨b.reg.toArray⟩,.string ⟨b.name.toArray⟩,.slice BE mE dE,.slice BF mF dF,.int .i64 b.n,.int .i64 b.body,.int .i64 b.els,.int .i64 b.pl] 44)
 exact⟨_,_,rfl,rfl,h1.on (AC h4 (AD _)),h3.on (AD _),AC (AC h2 h4) (AD _)⟩
theorem QDZ.turn {wr wx:World} {a b:Stm} {AE:Option Addr} {nE cE:Nat} {AF:Option Addr} {nF cF:Nat} {BE:Option Addr} {mE dE:Nat} {BF:Option Addr} {mF dF:Nat} {u v:Value} (h:QDZ wr b a BE mE dE BF mF dF AE nE cE AF nF cF u v wx):QDZ wr a b AE nE cE AF nF cF BE mE dE BF mF dF v u wx:=by
 obtain⟨p,q,h1,h2,h3,h4,h5⟩:=h;exact⟨q,p,h2,h1,h4,h3,h5⟩
theorem Fh {p V:Bool} {L M:List Nod} (hV:E9 p L M=V) {v1 v2:Value} {w w1:World} (h1:Ax w v1 L) (h2:Ax w v2 M) (hb:Below w.heap.size w w1) (hl:L.length<=10000):Calls Tryz.prog 31 #[v1,v2,.bool p] w1 (fun e w'=>e=.returned (.bool V)/\∃m,w'=w1.drewN m):=by
 subst hV;exact Yq p v1 v2 L M w1 (h1.on hb) (h2.on hb) hl
set_option maxRecDepth 100000 in
set_option maxHeartbeats 16000000 in
theorem X2 (p:Bool) (v1 v2:Value) (L M:List Stm) (w:World) (h1:BG w v1 L) (h2:BG w v2 M) (hl:L.length<=10000) (hsm:∀x∈L,Fb x):
  Calls Tryz.prog 90 #[v1,v2,.bool p] w (AK (MG p L M) w):=by
 have HR1:=AA h1;have HR2:=AA h2;have HSM:=AA hsm;obtain⟨A,c,rfl,hc,hm1,hr1⟩:=h1;obtain⟨A',c',rfl,hc',hm2,hr2⟩:=h2;clear hr1 hr2 hsm;by_cases hL:L.length=M.length
 ·rw[<-hL]at HR2 hc'⊢;have HL:=AA hL;have HM:=AA (show∀k,k<L.length->k<M.length by rw[hL];exact fun _ h=>h);clear hL;go_enter Tryz.func90,Tryz.ntmps90;go_wp2_with fail
  go_loopw [7] (fun i wr=>∃k:Nat,k<=L.length/\i=.int .i64 k/\Below w.heap.size w wr/\Ae (DT p) (L.take k) (M.take k)=true) (fun i _=>L.length-(intOf i).toNat)
  case atStart=>exact⟨0,Nat.zero_le _,rfl,Below.refl _ _,rfl⟩
  case round=>
   obtain⟨k,hk,rfl,hbel,hs⟩:=hrel;have HS:=AA hs;have HB:=AA hbel;have hsz:=hbel.size;clear hs;by_cases hlt:k<L.length
   ·have hkm:=HM.out k hlt;have ha:L[k]?=some L[k]:=List.getElem?_eq_getElem hlt;have hb:M[k]?=some (M[k]'hkm):=List.getElem?_eq_getElem hkm
    generalize L[k]=a at *;generalize M[k]'hkm=b at *
    have HSA:=AA (HSM.out a (List.mem_of_getElem? ha));obtain⟨A2,c2,hv,_,_,hr⟩:=HR1.out.on hbel;obtain⟨rfl,_,rfl⟩:A=A2/\True/\c=c2:=by simpa using hv
    obtain⟨A2',c2',hv',_,_,hr'⟩:=HR2.out.on hbel;obtain⟨rfl,rfl⟩:A'=A2'/\c'=c2':=by simp only[Value.slice.injEq]at hv';exact⟨hv'.1,hv'.2.2⟩
    obtain⟨g,o,AE,nE,cE,AF,nF,cF,rfl,h9⟩:=hr k a ha;obtain⟨g',o',BE,mE,dE,BF,mF,dF,rfl,k9⟩:=hr' k b hb;have H9:=AA h9;have K9:=AA k9;have hkI0:(0:Int)<=(k:Int):=by omega
    have hkI1:(k:Int)<(L.length:Int):=by omega
    have HN:=AA (fun h=>DD (q:=DT p) ha hb h);have HY:=AA (Bz (q:=DT p) ha hb);clear ha hb hr hr' hv hv' hbel h9 k9;go_upto_region 6 with(fail)
    go_cut [8,9]from 15 to 96 (fun u v wx=>QDZ wr a b AE nE cE AF nF cF BE mE dE BF mF dF u v wx)
    case first=>
     go_region_held3 (fun w'=>w'.cell? ⟨g,o+k*9,none⟩=some (.int .i64 a.kind)/\w'.cell? ⟨g,o+k*9+1,none⟩=some (.string ⟨a.reg.toArray⟩)/\w'.cell? ⟨g,o+k*9+2,none⟩=some (.string ⟨a.name.toArray⟩)/\w'.cell? ⟨g,o+k*9+3,none⟩=some (.slice AE nE cE)/\w'.cell? ⟨g,o+k*9+4,none⟩=some (.slice AF nF cF)/\w'.cell? ⟨g,o+k*9+5,none⟩=some (.int .i64 a.n)/\w'.cell? ⟨g,o+k*9+6,none⟩=some (.int .i64 a.body)/\w'.cell? ⟨g,o+k*9+7,none⟩=some (.int .i64 a.els)/\w'.cell? ⟨g,o+k*9+8,none⟩=some (.int .i64 a.pl)/\w'.cell? ⟨g',o'+k*9,none⟩=some (.int .i64 b.kind)/\w'.cell? ⟨g',o'+k*9+1,none⟩=some (.string ⟨b.reg.toArray⟩)/\w'.cell? ⟨g',o'+k*9+2,none⟩=some (.string ⟨b.name.toArray⟩)/\w'.cell? ⟨g',o'+k*9+3,none⟩=some (.slice BE mE dE)/\w'.cell? ⟨g',o'+k*9+4,none⟩=some (.slice BF mF dF)/\w'.cell? ⟨g',o'+k*9+5,none⟩=some (.int .i64 b.n)/\w'.cell? ⟨g',o'+k*9+6,none⟩=some (.int .i64 b.body)/\w'.cell? ⟨g',o'+k*9+7,none⟩=some (.int .i64 b.els)/\w'.cell? ⟨g',o'+k*9+8,none⟩=some (.int .i64 b.pl)/\Below wr.heap.size wr w')
      ((refine QA7 H9.out K9.out ?_;repeat(first|exact Below.refl _ _|refine QA6 ?_|(refine Below.alloc ?_ (by simp;try omega) _)|(refine Below.setCell ?_ (by simp;try omega) _))))
      (fail)
     ·go_wp2_with fail
      go_meet;case rel=>exact WE wr a b AE nE cE AF nF cF BE mE dE BF mF dF
     ·go_wp2_with fail
      go_meet;case rel=>exact(WE wr b a BE mE dE BF mF dF AE nE cE AF nF cF).turn
    case rest=>
     obtain⟨bx,by',rfl,rfl,N1,N2,hbx⟩:=hcut;have RE:=AA (H9.out.re.on hbx);have RF:=AA (H9.out.rf.on hbx);have QE:=AA (K9.out.re.on hbx);have QF:=AA (K9.out.rf.on hbx);have s3:=HSA.out.2.2.1;have s4:=HSA.out.2.2.2.1;have HBZ:=AA (AC HB.out hbx);obtain⟨lx,x0,x1,x2,x3,x4,x5,x6,x7,x8⟩:=N1;obtain⟨ly,y0,y1,y2,y3,y4,y5,y6,y7,y8⟩:=N2;clear hbx HR1 HR2 HSM HB HSA H9 K9 HM HL hkm hc hc' hm1 hm2 hsz;cases e1:(a.kind != b.kind)with
     |true=>
      have HQ:Hid (DT p a b=false):=AA (by rw[DO];simp at e1;simp[e1]);go_upto_region 7 with(fail)
      refine wp_region_lit ?_;simp only[List.append];go_wp2_with fail
      go_ret;exact⟨AH (HN.out HQ.out).symm,HBZ.out⟩
     |false=>
      cases e2:(a.reg==b.reg)with
      |false=>
       have HQ:Hid (DT p a b=false):=AA (by rw[DO];simp at e2;simp[e2]);go_upto_region 7 with(fail)
       refine wp_region_lit ?_;simp only[List.append];go_wp2_with fail
       go_ret;exact⟨AH (HN.out HQ.out).symm,HBZ.out⟩
      |true=>
       cases e3:(a.name==b.name)with
       |false=>
        have HQ:Hid (DT p a b=false):=AA (by rw[DO];simp at e3;simp[e3]);go_upto_region 7 with(fail)
        refine wp_region_lit ?_;simp only[List.append];go_wp2_with fail
        go_ret;exact⟨AH (HN.out HQ.out).symm,HBZ.out⟩
       |true=>
        cases e4:(a.n != b.n)with
        |true=>
         have HQ:Hid (DT p a b=false):=AA (by rw[DO];simp at e4;simp[e4]);go_upto_region 7 with(fail)
         refine wp_region_lit ?_;simp only[List.append];go_wp2_with fail
         go_ret;exact⟨AH (HN.out HQ.out).symm,HBZ.out⟩
        |false=>
         cases e5:(a.body != b.body)with
         |true=>
          have HQ:Hid (DT p a b=false):=AA (by rw[DO];simp at e5;simp[e5]);go_upto_region 7 with(fail)
          refine wp_region_lit ?_;simp only[List.append];go_wp2_with fail
          go_ret;exact⟨AH (HN.out HQ.out).symm,HBZ.out⟩
         |false=>
          cases e6:(a.els != b.els)with
          |true=>
           have HQ:Hid (DT p a b=false):=AA (by rw[DO];simp at e6;simp[e6]);go_upto_region 7 with(fail)
           refine wp_region_lit ?_;simp only[List.append];go_wp2_with fail
           go_ret;exact⟨AH (HN.out HQ.out).symm,HBZ.out⟩
          |false=>
           cases p with
           |false=>
            cases e8:E9 false a.e b.e with
            |false=>
             have HQ:Hid (DT false a b=false):=AA (by rw[DO];simp[e8]);go_upto_region 7 with(fail)
             refine wp_region_lit ?_;simp only[List.append];go_wp2_with fail
             refine(Fh e8 RE.out QE.out (Below.refl _ _) s3).mono ?_;rintro r1 w1 ⟨rfl,m1,rfl⟩;go_wp2_with fail
             go_ret;exact⟨AH (HN.out HQ.out).symm,AC HBZ.out (AM _ _)⟩
            |true=>
             cases e9:E9 false a.f b.f with
             |false=>
              have HQ:Hid (DT false a b=false):=AA (by rw[DO];simp[e9]);go_upto_region 7 with(fail)
              refine wp_region_lit ?_;simp only[List.append];go_wp2_with fail
              refine(Fh e8 RE.out QE.out (Below.refl _ _) s3).mono ?_;rintro r1 w1 ⟨rfl,m1,rfl⟩;go_wp2_with fail
              refine(Fh e9 RF.out QF.out (AM _ _) s4).mono ?_;rintro r2 w2 ⟨rfl,m2,rfl⟩;go_wp2_with fail
              go_ret;exact⟨AH (HN.out HQ.out).symm,by(first|exact AC HBZ.out (G4 _ _ _)|exact AC HBZ.out (AM _ _))⟩
             |true=>
              have HQ:Hid (DT false a b=true):=AA (by rw[DO];simp at e1 e2 e3 e4 e5 e6;simp[e1,e2,e3,e4,e5,e6,e8,e9]);go_upto_region 7 with(fail)
              refine wp_region_lit ?_;simp only[List.append];go_wp2_with fail
              refine(Fh e8 RE.out QE.out (Below.refl _ _) s3).mono ?_;rintro r1 w1 ⟨rfl,m1,rfl⟩;go_wp2_with fail
              refine(Fh e9 RF.out QF.out (AM _ _) s4).mono ?_;rintro r2 w2 ⟨rfl,m2,rfl⟩;go_wp2_with fail
              go_roundw;case rel=>exact⟨k+1,by omega,by go_num,(by(first|exact AC HBZ.out (G4 _ _ _)|exact AC HBZ.out (AM _ _))),by rw[HY.out,HS.out,HQ.out];rfl⟩
              case measure=>simp[intOf];omega
           |true=>
            cases e7:(a.pl != b.pl)with
            |true=>
             have HQ:Hid (DT true a b=false):=AA (by rw[DO];simp at e7;simp[e7]);go_upto_region 7 with(fail)
             refine wp_region_lit ?_;simp only[List.append];go_wp2_with fail
             go_ret;exact⟨AH (HN.out HQ.out).symm,HBZ.out⟩
            |false=>
             cases e8:E9 true a.e b.e with
             |false=>
              have HQ:Hid (DT true a b=false):=AA (by rw[DO];simp[e8]);go_upto_region 7 with(fail)
              refine wp_region_lit ?_;simp only[List.append];go_wp2_with fail
              refine(Fh e8 RE.out QE.out (Below.refl _ _) s3).mono ?_;rintro r1 w1 ⟨rfl,m1,rfl⟩;go_wp2_with fail
              go_ret;exact⟨AH (HN.out HQ.out).symm,AC HBZ.out (AM _ _)⟩
             |true=>
              cases e9:E9 true a.f b.f with
              |false=>
               have HQ:Hid (DT true a b=false):=AA (by rw[DO];simp[e9]);go_upto_region 7 with(fail)
               refine wp_region_lit ?_;simp only[List.append];go_wp2_with fail
               refine(Fh e8 RE.out QE.out (Below.refl _ _) s3).mono ?_;rintro r1 w1 ⟨rfl,m1,rfl⟩;go_wp2_with fail
               refine(Fh e9 RF.out QF.out (AM _ _) s4).mono ?_;rintro r2 w2 ⟨rfl,m2,rfl⟩;go_wp2_with fail
               go_ret;exact⟨AH (HN.out HQ.out).symm,by(first|exact AC HBZ.out (G4 _ _ _)|exact AC HBZ.out (AM _ _))⟩
              |true=>
               have HQ:Hid (DT true a b=true):=AA (by rw[DO];simp at e1 e2 e3 e4 e5 e6 e7;simp[e1,e2,e3,e4,e5,e6,e7,e8,e9]);go_upto_region 7 with(fail)
               refine wp_region_lit ?_;simp only[List.append];go_wp2_with fail
               refine(Fh e8 RE.out QE.out (Below.refl _ _) s3).mono ?_;rintro r1 w1 ⟨rfl,m1,rfl⟩;go_wp2_with fail
               refine(Fh e9 RF.out QF.out (AM _ _) s4).mono ?_;rintro r2 w2 ⟨rfl,m2,rfl⟩;go_wp2_with fail
               go_roundw;case rel=>exact⟨k+1,by omega,by go_num,(by(first|exact AC HBZ.out (G4 _ _ _)|exact AC HBZ.out (AM _ _))),by rw[HY.out,HS.out,HQ.out];rfl⟩
               case measure=>simp[intOf];omega
   ·have HQ:=AA (Cb (q:=DT p) (by omega) HL.out HS.out);clear hbel;go_wp2_with fail
    go_ret;exact⟨AH HQ.out.symm,HB.out⟩
 ·have HQ:=AA (CZ (q:=DT p) hL);have hd:((L.length:Int) != (M.length:Int))=true:=by simp;omega
  clear hL;go_enter Tryz.func90,Tryz.ntmps90;go_wp2_with fail
  go_ret;exact⟨AH HQ.out.symm,Below.refl _ _⟩
end Go.Proofs.YthfkpalfopdmhaaGreatDoor
