/- Texts of the walk, packed. -/
import Derived.Test.YthfkpalfopdmhaaGreatDoorX13
import Derived.Test.YthfkpalfopdmhaaGreatDoorX09
import Derived.Test.YthfkpalfopdmhaaGreatDoorX00
namespace Go.Proofs.YthfkpalfopdmhaaGreatDoor
open Go.RowKit
set_option maxRecDepth 100000 in
set_option maxHeartbeats 4000000 in
theorem Yk (L:List Tok) (f:Nat) (hs:Gp L f) (i d:Nat) (r:Res) (g:Nat) (v:Value) (w:World) (hd:d≤12) (hr:BX L f i d=some r) (h:Sits L w g v i d):
  Calls Tryz.prog 218 #[.pointer (some ⟨g,0,none⟩),.int .i64 6] w (EL L g v d i r w):=by
 have HF:=AA hs;have HR:=AA hr;have hgl:=h.rd.lt;have hb0:=(Below.refl w.heap.size w).alloc (Nat.le_refl _) (.cells #[.slice none 0 0,.int .i64 0,.int .i64 0] 238);have HB0:=AA hb0;have HS0:=AA (h.on hb0);have HP0:=AA (GU w (.slice none 0 0) (.int .i64 0) (.int .i64 0));clear hs hr h hb0;go_enter Tryz.func218,Tryz.ntmps218;go_wp2_with fail
 refine(HF.out i d r g v _ hd HR.out HS0.out).mono ?_;rintro e w1 ⟨P,A,n,c,hP,rfl,ho,hS1,hK1⟩;have HP:=AA hP;have HO:Hid (CL w1 (w.heap.size+1) (.slice A n c) P.ns):=AA (by simpa using ho);have HS1:=AA hS1;have HK1:Hid (Ah g w w1):=AA ((Ah.of HB0.out).trans hK1);obtain⟨p0,p1,p2,p3,p4,p5,p6⟩:=HP0.out.keep (by omega) hK1;clear hP ho hS1 hK1;go_wp2_with fail
 refine bodyPost_ret (v:=.tuple #[.agg #[.slice A n c,.int .i64 P.many,.int .i64 P.deep],.int .i64 (errOf r)]) (by simp[results,Tryz.results218,go_sem, *]) rfl ?_;exact DG (rb:=w.heap.size) HP.out rfl (HO.out.base (by omega)) (fun b hb=>by have:=(By HO.out b hb).1;omega) HS1.out HK1.out hgl (Nat.le_refl _)
def QAo (g:Nat) (w:World):Nat:=match w.cell? ⟨g,1,none⟩with
 |some (.int _ z)=>z.toNat
 |_=>0
theorem Ug {L:List Tok} {w:World} {g:Nat} {v:Value} {i d:Nat} (h:Sits L w g v i d):QAo g w=i:=by
 unfold QAo;rw[h.rd.c1];simp
def QAp (L:List Tok) (f b:Nat) (i d:Nat) (g:Nat) (v:Value) (R:Res) (w:World) (lb:Nat) (E:Int) (wr:World):Prop:=
 ∃(P:Prt) (A:Option Addr) (n c pos:Nat),Pd wr lb (.slice A n c) (.int .i64 P.many) (.int .i64 P.deep)∧CL wr (w.heap.size+1) (.slice A n c) P.ns∧(∀k,(Value.slice A n c).ownBlock=some k→k≠lb)∧Pd wr w.heap.size (.slice none 0 0) (.int .i64 0) (.int .i64 0)∧Sits L wr g v pos d∧Ah g w wr∧
  ((E=0∧∃f' x,f'≤f∧P=BM x∧Q5 L i x pos∧ED L f' b x pos d=some R)∨(E≠0∧R=.bad E pos∧Fb i R P))
def Goes (L:List Tok) (f b d:Nat) (R:Res):Res→Prop
 |.ok x tq=>ED L f b x tq d=some R
 |.bad e j=>R=.bad e j
theorem Uh {L:List Tok} {f b i d g:Nat} {v:Value} {r1 R:Res} {w w1:World} {P:Prt} {A:Option Addr} {n c:Nat} (hP:Fb i r1 P) (ho:CL w1 (w.heap.size+1) (.slice A n c) P.ns) (hS:Sits L w1 g v (Gh r1) d) (hK:Ah g w w1) (hp:Pd w1 w.heap.size (.slice none 0 0) (.int .i64 0) (.int .i64 0)) (hR:Goes L f b d R r1) (hf:O8 L i r1):
  QAp L f b i d g v R w w1.heap.size (errOf r1) (w1.alloc (.cells #[.slice A n c,.int .i64 P.many,.int .i64 P.deep] 238)):=by
 have hb:=(Below.refl w1.heap.size w1).alloc (Nat.le_refl _) (.cells #[.slice A n c,.int .i64 P.many,.int .i64 P.deep] 238);refine⟨P,A,n,c,Gh r1,GU w1 _ _ _,ho.on hb,fun k hk=>?_,hp.on hb,hS.on hb,hK.andBelow hb hK.size,?_⟩
 ·have:=(By ho k hk).2;omega
 ·cases r1 with
  |ok x tq=>exact .inl ⟨rfl,f,x,Nat.le_refl _,hP,hf,hR⟩
  |bad e j=>
   obtain⟨he,_⟩:=hf;have hR':R=.bad e j:=hR;subst hR';exact .inr ⟨by show e≠0;omega,rfl,hP⟩
theorem Nr {L:List Tok} {i d g:Nat} {v:Value} {R:Res} {w wr:World} {P:Prt} {A:Option Addr} {n c:Nat} {x y z:Value} (hP:Fb i R P) (ho:CL wr (w.heap.size+1) (.slice A n c) P.ns) (hS:Sits L wr g v (Gh R) d) (hK:Ah g w wr) (hg:g<w.heap.size) {E:Int} (hE:E=errOf R):
  EL L g v d i R w (.returned (.tuple #[.agg #[.slice A n c,.int .i64 P.many,.int .i64 P.deep],.int .i64 E])) (((wr.setCell ⟨w.heap.size,0,none⟩ x).setCell ⟨w.heap.size,1,none⟩ y).setCell ⟨w.heap.size,2,none⟩ z):=
 DG (rb:=w.heap.size) hP hE (ho.base (by omega)) (fun b hb=>by have:=(By ho b hb).1;omega) hS hK hg (Nat.le_refl _)
def Yl (a:Nod) (x:Ex):Res→Res
 |.ok y tq=>.ok (.bin a x y) tq
 |.bad e j=>.bad e j
theorem QAq {L:List Tok} {i pos:Nat} {a:Nod} {x:Ex} {r:Res} (hl:L.length≤10000) (hx:Q5 L i x pos) (hp:pos<L.length) (hf:O8 L (pos+1) r):∀P,Fb (pos+1) r P→PW P∧Fb i (Yl a x r) (E3 a [BM x,P]):=by
 intro P hP;obtain⟨k1,k2,k3,k4,k5⟩:=hx;cases r with
 |ok y tq=>
  obtain rfl:P=BM y:=hP;obtain⟨h1,h2,h3,h4,h5⟩:=hf;exact⟨Ss (by omega),QAh a x y⟩
 |bad e j=>
  obtain⟨_,g1,g2⟩:=hf;obtain⟨h1,h2,h3,h4⟩:=hP;refine⟨⟨h1,by omega,by omega⟩,?_⟩;show(E3 a [BM x,P]).ns.length≤40∧(E3 a [BM x,P]).ns.length≤EJ [BM x,P]∧EJ [BM x,P]≤j-i+1∧EK [BM x,P]≤j-i+1;have e1:(E3 a [BM x,P]).ns=if EJ [BM x,P]≤40 then Hy a [BM x,P]else[]:=rfl
  have e2:(Hy a [BM x,P]).length=(BM x).ns.length+P.ns.length+1:=by simp[Hy]
  have e3:EJ [BM x,P]=x.size+P.many+1:=by simp[EJ,BM];omega
  have e4:EK [BM x,P]=max (max 1 (x.deep+1)) (P.deep+1):=by simp[EK,BM]
  have e5:(BM x).ns.length≤x.size:=by
   show(if x.size≤40 then x.flat else[]).length≤x.size;split
   ·rw[B7];exact Nat.le_refl _
   ·simp
  have hd:=IQ x;rw[e1,e4];rw[e3]at *;split
  ·rw[e2];omega
  ·simp;omega
theorem S8 {L:List Tok} {g:Nat} {v:Value} {pos d:Nat} {Z:World} (h:Sits L Z g v pos d):
  ∃Y,Y=(Z.setCell ⟨g,1,none⟩ (.int .i64 ((pos:Int)+1))).alloc (.cells #[.slice none 0 0,.int .i64 0,.int .i64 0] 238)∧Sits L Y g v (pos+1) d∧Pd Y Z.heap.size (.slice none 0 0) (.int .i64 0) (.int .i64 0)∧Ah g Z Y∧Z.heap.size<Y.heap.size:=by
 refine⟨_,rfl,?_,?_,?_,by simp⟩
 ·exact(h.set1 (pos+1)).on ((Below.refl _ _).alloc (Nat.le_refl _) _)
 ·have:=GU (Z.setCell ⟨g,1,none⟩ (.int .i64 ((pos:Int)+1))) (.slice none 0 0) (.int .i64 0) (.int .i64 0);simpa using this
 ·exact((Ah.refl g Z).set).andBelow ((Below.refl _ _).alloc (Nat.le_refl _) _) (by simp)
theorem Ym {w:World} {B B2:Nat} {P P2:Prt} {A A2:Option Addr} {n c n2 c2:Nat} (ho:CL w B (.slice A n c) P.ns) (ho2:CL w B2 (.slice A2 n2 c2) P2.ns):
  ∃J,J=w.alloc (.cells #[.slice A n c,.int .i64 P.many,.int .i64 P.deep,.slice A2 n2 c2,.int .i64 P2.many,.int .i64 P2.deep] 238)∧PX J (.slice (some ⟨w.heap.size,0,none⟩) 2 2) [P,P2]∧Below w.heap.size w J:=by
 have b1:=(Below.refl w.heap.size w).alloc (Nat.le_refl _) (.cells #[.slice A n c,.int .i64 P.many,.int .i64 P.deep,.slice A2 n2 c2,.int .i64 P2.many,.int .i64 P2.deep] 238);refine⟨_,rfl,⟨_,_,rfl,Nat.le_refl _,fun i p hi=>?_⟩,b1⟩
 match i,hi with
 |0,hi=>
  simp at hi;subst hi;exact⟨_,_,rfl,by simp,by simp,by simp,by simp,(ho.on b1).lies⟩
 |1,hi=>
  simp at hi;subst hi;exact⟨_,_,rfl,by simp,by simp,by simp,by simp,(ho2.on b1).lies⟩
theorem filled {w:World} {b:Nat} {x y z:Value} (h:Pd w b x y z) (x' y' z':Value):∃w',w'=((w.setCell ⟨b,0,none⟩ x').setCell ⟨b,1,none⟩ y').setCell ⟨b,2,none⟩ z'∧Pd w' b x' y' z'∧Ah b w w'∧Below b w w'∧w.heap.size=w'.heap.size:=
 ⟨_,rfl,h.set x' y' z',(((Ah.refl _ _).set).set).set,(((Below.refl b w).setCell (p:=⟨b,0,none⟩) (Nat.le_refl _) x').setCell (p:=⟨b,1,none⟩) (Nat.le_refl _) y').setCell (p:=⟨b,2,none⟩) (Nat.le_refl _) z',by simp⟩
set_option maxRecDepth 100000 in
set_option maxHeartbeats 8000000 in
theorem V4 (L:List Tok) (f:Nat) (hl:L.length≤10000) (hc:∀f',f'≤f→Gq L f') (b i d:Nat) (r1 R:Res) (g:Nat) (v:Value) (w:World) (hb:1≤b) (hb2:b≤5) (hd:d≤12) (hr1:Ax L f (b+1) i d=some r1)
  (hR:Goes L f b d R r1) (h:Sits L w g v i d):
  Calls Tryz.prog 218 #[.pointer (some ⟨g,0,none⟩),.int .i64 b] w (EL L g v d i R w):=by
 have HC:=AA hc;have HR1:=AA hr1;have HR:=AA hR;have hfine:=(Fg L f).1 _ _ _ _ (by omega) (by omega) hr1;have HFI:=AA hfine;have hgl:=h.rd.lt;have hb0:=(Below.refl w.heap.size w).alloc (Nat.le_refl _) (.cells #[.slice none 0 0,.int .i64 0,.int .i64 0] 238);have HB0:=AA hb0;have HS0:=AA (h.on hb0);have HP0:=AA (GU w (.slice none 0 0) (.int .i64 0) (.int .i64 0));have hb6:((b:Int)==6)=false:=beq_eq_false_iff_ne.2 (by omega);clear hc hr1 hR hfine h hb0;go_enter Tryz.func218,Tryz.ntmps218;go_wp2_with fail
 refine(HC.out f (Nat.le_refl _) (b+1) i d r1 g v _ (by omega) (by omega) hd HR1.out HS0.out).mono ?_;rintro e w1 ⟨P,A,n,c,hP,rfl,ho,hS1,hK1⟩;have ho':CL w1 (w.heap.size+1) (.slice A n c) P.ns:=by simpa using ho
 have hK1':Ah g w w1:=(Ah.of HB0.out).trans hK1;have hI0:=Uh (L:=L) (f:=f) (b:=b) (R:=R) hP ho' hS1 hK1' (HP0.out.keep (by omega) hK1) HR.out HFI.out;have HI0:=AA hI0;have hlb:w.heap.size<w1.heap.size:=by have:=hK1.size;simp at this;omega
 clear hP ho hS1 hK1 ho' hK1' hI0;go_wp2_with fail
 generalize hlbe:w1.heap.size=lb at *;clear hlbe;go_loopw [7] (fun e wr=>∃E,e=.int .i64 E∧QAp L f b i d g v R w lb E wr) (fun e wr=>(if intOf e=0 then 1 else 0)+2*(L.length-QAo g wr))
 case atStart=>exact⟨_,rfl,HI0.out⟩
 case round=>
  obtain⟨E,rfl,P,A,n,c,pos,hpl,hown,hol,hpr,hS,hK,hst⟩:=hrel;have HPL:=AA hpl;have HO:=AA hown;have HOL:=AA hol;have HPR:=AA hpr;have HS:=AA hS;have HK:=AA hK;clear hown hol HI0;rcases hst with⟨rfl,f',x,hf',rfl,hfl,hloop⟩|⟨hE,hRb,hPr⟩
  ·cases f' with
   |zero=>simp[ED]at hloop
   |succ f'=>
    by_cases hsg:A9 L b pos=0
    ·have hRe:R=.ok x pos:=by
      rw[ED,if_pos hsg]at hloop;exact(Option.some.inj hloop).symm
     subst hRe;have HSG:=AA hsg;clear hloop hsg hfl hpl hpr hS hK;go_wp2_with fail
     refine(MY L g v pos d b _ HS.out).mono ?_;rw[HSG.out];rintro e w2 ⟨rfl,hb2⟩;have HB2:=AA hb2;obtain⟨p0,p1,p2,p3,p4,p5,p6⟩:=HPL.out.on hb2;obtain⟨q0,q1,q2,q3,q4,q5,q6⟩:=HPR.out.on hb2;clear hb2;go_wp2_with fail
     refine bodyPost_ret (v:=.tuple #[.agg #[.slice A n c,.int .i64 (BM x).many,.int .i64 (BM x).deep],.int .i64 0]) (by simp[results,Tryz.results218,go_sem, *]) rfl ?_;exact Nr (R:=.ok x pos) rfl (HO.out.on HB2.out) (HS.out.on HB2.out) (HK.out.andBelow HB2.out HK.out.size) hgl rfl
    ·have hlt:=GG hsg;rw[ED,if_neg hsg]at hloop;cases hch:Ax L f' (b+1) (pos+1) d with
     |none=>rw[hch]at hloop;cases hloop
     |some r2=>
      have hfine2:=(Fg L f').1 _ _ _ _ (by omega) (by omega) hch;obtain⟨k,hk⟩:∃k,A9 L b pos=k:=⟨_,rfl⟩
      have hk0:((k:Int)==0)=false:=beq_eq_false_iff_ne.2 (by omega);have hat:L[pos]?=some L[pos]:=List.getElem?_eq_getElem hlt;generalize L[pos]=t at *;have hsn:signN L b pos=⟨k,0,[],t.pl⟩:=by unfold signN plAt;rw[hk,hat]
      have HFIT:=AA (QAq (a:=⟨k,0,[],t.pl⟩) hl hfl hlt hfine2);have HFX:Hid (PW (BM x)):=AA (Ss (by obtain⟨a1,a2,a3,a4,a5⟩:=hfl;omega));have HNXT:Hid ((b=3→R=Yl ⟨k,0,[],t.pl⟩ x r2)∧(b≠3→(errOf r2=0∧∃f'' x',f''≤f∧Yl ⟨k,0,[],t.pl⟩ x r2=.ok x' (Gh r2)∧Q5 L i x' (Gh r2)∧ED L f'' b x' (Gh r2) d=some R)∨(errOf r2≠0∧R=.bad (errOf r2) (Gh r2)∧Yl ⟨k,0,[],t.pl⟩ x r2=R))∧pos<Gh r2∧Yl ⟨k,0,[],t.pl⟩ x r2=Yl ⟨k,0,[],t.pl⟩ x r2):=AA (by
       rw[hch,hsn]at hloop;cases r2 with
       |ok y tq=>
        simp only at hloop;have hxy:=UV hb hb2 hsg hfl hfine2;rw[hsn]at hxy;obtain⟨a1,_⟩:=hfine2;refine⟨fun h3=>?_,fun h3=>?_,by show pos<tq;omega,rfl⟩
        ·rw[if_pos h3]at hloop;exact(Option.some.inj hloop).symm
        ·rw[if_neg h3]at hloop;exact .inl ⟨rfl,f',_,by omega,rfl,hxy,hloop⟩
       |bad e j=>
        simp only at hloop;have hRe:R=.bad e j:=(Option.some.inj hloop).symm;subst hRe;obtain⟨he,a1,_⟩:=hfine2;exact⟨fun _=>rfl,fun _=>.inr ⟨by show e≠0;omega,rfl,rfl⟩,by show pos<j;omega,rfl⟩)
      have HSG:=AA hk;have HCH:=AA hch;have HAT:=AA hat;have hff:f'≤f:=by omega
      clear hloop hsg hfl hpl hpr hS hK hch hfine2 hk hat hsn;go_wp2_with fail
      refine(MY L g v pos d b _ HS.out).mono ?_;rw[HSG.out];rintro e w2 ⟨rfl,hb2⟩;have HS2:=AA (HS.out.on hb2);have HPL2:=AA (HPL.out.on hb2);have HPR2:=AA (HPR.out.on hb2);have HO2:=AA (HO.out.on hb2);have HK2:Hid (Ah g w w2):=AA (HK.out.andBelow hb2 HK.out.size);clear hb2;obtain⟨⟨hg2,c0,c1,c2,f1,f2⟩,⟨A0,cc,hv0,hcc,hr0⟩,_,_⟩:=HS2.out;obtain⟨tb,rfl,hbg,x0,x1,x2,x3⟩:=hr0 pos t HAT.out;subst hv0;clear hr0 c2 f1 f2 x0 x1 x2;have hi0:(0:Int)≤(pos:Int):=by omega
      have hi1:(pos:Int)<(L.length:Int):=by omega
      have n0:=World.new_ne w2 _ c0;have n1:=World.new_ne w2 _ c1;have m3:=World.new_ne w2 _ x3;go_wp2_with fail
      go_region_held3 (fun w'=>w'.cell? ⟨g,0,none⟩=some (.slice (some ⟨tb,0,none⟩) L.length cc)∧w'.cell? ⟨g,1,none⟩=some (.int .i64 pos)∧w'.cell? ⟨tb,pos*4+3,none⟩=some (.int .i64 t.pl))
       (first|exact⟨c0,c1,x3⟩|go_keep)
       (fail)
      have hN:=(Su w2 (.int .i64 k) (.int .i64 0) (.string ⟨#[]⟩) (.int .i64 t.pl) 46).on (EM _ _);have hBn:=((Below.refl w2.heap.size w2).alloc (Nat.le_refl _) (.cells #[.int .i64 k,.int .i64 0,.string ⟨#[]⟩,.int .i64 t.pl] 46)).trans (EM _ _);clear n0 n1 m3 c0 c1 x3 hi0 hi1;generalize hZ:(w2.alloc (.cells #[.int .i64 k,.int .i64 0,.string ⟨#[]⟩,.int .i64 t.pl] 46)).drew=Z at *;clear hZ;have HSZ:=AA (HS2.out.on hBn);have HPLZ:=AA (HPL2.out.on hBn);have HPRZ:=AA (HPR2.out.on hBn);have HOZ:=AA (HO2.out.on hBn);have HKZ:Hid (Ah g w Z):=AA (HK2.out.andBelow hBn HK2.out.size);have HNZ:=AA hN;have hzn:=hN.lt;clear hN hBn
      obtain⟨⟨hgZ,c0,c1,c2,f1,f2⟩,_,_,_⟩:=HSZ.out;go_wp2_with fail
      obtain⟨Y,hY,hSY,hPY,hKY,hzY⟩:=S8 HSZ.out;rw[←hY];have HSY:=AA hSY;have HPY:=AA hPY;have HPLY:=AA (HPLZ.out.keep (by omega) hKY);have HPRY:=AA (HPRZ.out.keep (by omega) hKY);have HOY:=AA (HOZ.out.keep (by omega) hKY);have HNY:=AA (HNZ.out.keep (by omega) hKY);have HKY:Hid (Ah g w Y):=AA (HKZ.out.trans hKY);have hoz:∀q,(Value.slice A n c).ownBlock=some q→q<Z.heap.size:=fun q hq=>(By HOZ.out q hq).2
      have HOW:=AA hoz;have hlbz:=HPLZ.out.lt;have hrz:=HPRZ.out.lt;clear hY hSY hPY hKY c0 c1 c2 f1 f2 hoz;refine(HC.out f' hff (b+1) (pos+1) d r2 g _ Y (by omega) (by omega) hd HCH.out HSY.out).mono ?_;rintro e w3 ⟨P2,A2,n2,c2,hP2,rfl,ho2,hS3,hK3⟩;have HP2:=AA hP2;have HO2':=AA ho2;have HS3:=AA hS3;have HK3:Hid (Ah g w w3):=AA (HKY.out.trans hK3);have HPL3:=AA (HPLY.out.keep (by omega) hK3);have HPR3:=AA (HPRY.out.keep (by omega) hK3);have HOL3:=AA (HOY.out.keep (by omega) hK3);have HN3:=AA (HNY.out.keep (by omega) hK3);have hPB3:=HPY.out.keep (by omega) hK3;have HPB3:=AA hPB3
      have hz3:Z.heap.size<w3.heap.size:=by have:=hK3.size;omega
      clear hP2 ho2 hS3 hK3;obtain⟨w4,hw4,hP4,hK4,hB4,hz4⟩:=filled hPB3 (.slice A2 n2 c2) (.int .i64 P2.many) (.int .i64 P2.deep);have HW4:=AA hw4;have HZ4:=AA hz4;have HS4:=AA (HS3.out.upto hB4 (by omega));have HK4:Hid (Ah g w w4):=AA (HK3.out.andBelow hB4 (by omega));have HPL4:=AA (HPL3.out.keep (g:=Z.heap.size) (by omega) hK4);have HPR4:=AA (HPR3.out.keep (g:=Z.heap.size) (by omega) hK4);have HOL4:Hid (CL w4 (w.heap.size+1) (.slice A n c) (BM x).ns):=AA (HOL3.out.away (g:=Z.heap.size) (fun q hq=>by have:=HOW.out q hq;omega) hK4)
      have HOR4:Hid (CL w4 Y.heap.size (.slice A2 n2 c2) P2.ns):=AA (HO2'.out.away (g:=Z.heap.size) (fun q hq=>by have:=(By HO2'.out q hq).1;omega) hK4);have HN4:=AA (HN3.out.keep (g:=Z.heap.size) (by omega) hK4);have HP4:=AA hP4;obtain⟨s0,s1,s2,s3,s4,s5,s6⟩:=hPB3;clear hw4 hz4 hP4 hK4 hB4;go_upto_region 11 with(fail)
      rw[←HW4.out];clear s0 s1 s2 s3 s4 s5 s6;obtain⟨y0,y1,y2,y3,y4,_,_,_⟩:=HN4.out;obtain⟨p0,p1,p2,p3,p4,p5,p6⟩:=HPL4.out;obtain⟨s0,s1,s2,s3,s4,s5,s6⟩:=HP4.out;go_wp2_with fail
      obtain⟨J,hJ,hRJ,hBJ⟩:=Ym (P:=BM x) (P2:=P2) HOL4.out HOR4.out;rw[←hJ];have HRJ:=AA hRJ;have HBJ:=AA hBJ;clear hJ hRJ hBJ y0 y1 y2 y3 y4 p0 p1 p2 p3 p4 p5 p6 s0 s1 s2 s3 s4 s5 s6;have HFT:=AA (HFIT.out P2 HP2.out);refine(MZ ⟨k,0,[],t.pl⟩ _ [BM x,P2] J HRJ.out (by simp) (by intro p hp;simp at hp;rcases hp with rfl|rfl;exact HFX.out;exact HFT.out.1)).mono ?_;rintro e w5 ⟨u,rfl,ho5,hb5⟩;obtain⟨A5,n5,c5,rfl⟩:=IR ho5;have hJz:=HBJ.out.size;have hb45:=AC HBJ.out hb5;have HO5:=AA ho5;have HS5:=AA (HS4.out.on hb45);have HK5:Hid (Ah g w w5):=AA (HK4.out.andBelow hb45 HK4.out.size)
      have hPL5:=HPL4.out.on hb45;have HPR5:=AA (HPR4.out.on hb45);have hlb4:=HPL4.out.lt;clear ho5 hb5 hb45;have HFP:=AA HFT.out.2;generalize E3 ⟨(k:Int),0,[],(t.pl:Int)⟩ [BM x,P2]=P' at *;obtain⟨w6,hw6,hP6,hK6,hB6,hz6⟩:=filled hPL5 (.slice A5 n5 c5) (.int .i64 P'.many) (.int .i64 P'.deep);have HW6:=AA hw6;have HS6:=AA (HS5.out.upto hB6 (by omega));have HK6:Hid (Ah g w w6):=AA (HK5.out.andBelow hB6 (by omega));have HPR6:=AA (HPR5.out.keep (g:=lb) (by omega) hK6);have hob:∀q,(Value.slice A5 n5 c5).ownBlock=some q→q≠lb:=fun q hq=>by have:=(By HO5.out q hq).1;omega
      have HOB:=AA hob;have HO6:Hid (CL w6 (w.heap.size+1) (.slice A5 n5 c5) P'.ns):=AA ((HO5.out.away (g:=lb) hob hK6).base (by omega));have HP6:=AA hP6;obtain⟨s0,s1,s2,s3,s4,s5,s6⟩:=hPL5;clear hw6 hz6 hP6 hK6 hB6 hob;go_upto_region 12 with(fail)
      rw[←HW6.out];clear s0 s1 s2 s3 s4 s5 s6;by_cases h3:b=3
      ·have hRe:=HNXT.out.1 h3;have HRE:=AA hRe;have hb3:((b:Int)==3)=true:=by rw[h3];rfl
       have HE:Hid (errOf r2=errOf R):=AA (by rw[hRe];cases r2<;>rfl);have HPo:Hid (Gh r2=Gh R):=AA (by rw[hRe];cases r2<;>rfl);obtain⟨p0,p1,p2,p3,p4,p5,p6⟩:=HP6.out;obtain⟨q0,q1,q2,q3,q4,q5,q6⟩:=HPR6.out;clear hRe h3;go_wp2_with fail
       refine bodyPost_ret (v:=.tuple #[.agg #[.slice A5 n5 c5,.int .i64 P'.many,.int .i64 P'.deep],.int .i64 (errOf r2)]) (by simp[results,Tryz.results218,go_sem, *]) rfl ?_;exact Nr (by rw[HRE.out];exact HFP.out) HO6.out (by rw[←HPo.out];exact HS6.out) HK6.out hgl HE.out
      ·have hb3:((b:Int)==3)=false:=beq_eq_false_iff_ne.2 (by omega);have HNX:=AA (HNXT.out.2.1 h3);have HPS:=AA HNXT.out.2.2.1;have HR1:=AA (Ug HS6.out);have HR0:=AA (Ug HS.out);clear h3;go_wp2_with fail
       go_roundw;case rel=>
        refine⟨_,rfl,P',A5,n5,c5,Gh r2,HP6.out,HO6.out,HOB.out,HPR6.out,HS6.out,HK6.out,?_⟩;rcases HNX.out with⟨h0,f'',x',hf'',hbx,hfx,hlx⟩|⟨h0,hRb,hbx⟩
        ·refine .inl ⟨h0,f'',x',hf'',?_,hfx,hlx⟩;have:=HFP.out;rw[hbx]at this;exact this
        ·refine .inr ⟨h0,hRb,?_⟩;have:=HFP.out;rw[hbx]at this;exact this
       case measure=>
        rw[HR1.out,HR0.out];have:=HPS.out;split<;>simp[intOf]<;>omega
  ·subst hRb;have hE2:(E==0)=false:=beq_eq_false_iff_ne.2 hE;have HPr:=AA hPr;obtain⟨p0,p1,p2,p3,p4,p5,p6⟩:=hpl;obtain⟨q0,q1,q2,q3,q4,q5,q6⟩:=hpr;clear hE hPr hS hK;go_wp2_with fail
   refine bodyPost_ret (v:=.tuple #[.agg #[.slice A n c,.int .i64 P.many,.int .i64 P.deep],.int .i64 E]) (by simp[results,Tryz.results218,go_sem, *]) rfl ?_;exact Nr (R:=.bad E pos) HPr.out HO.out HS.out HK.out hgl rfl
theorem V5 (L:List Tok) (f:Nat) (hl:L.length≤10000) (hc:∀f',f'≤f→Gq L f') (hs:Gp L f):Gq L (f+1):=by
 intro b i d r g v w hb hb2 hd hr h;rw[Ax]at hr;by_cases h6:b=6
 ·rw[if_pos h6]at hr;subst h6;exact Yk L f hs i d r g v w hd hr h
 ·rw[if_neg h6]at hr;cases hch:Ax L f (b+1) i d with
  |none=>rw[hch]at hr;cases hr
  |some r1=>
   refine V4 L f hl hc b i d r1 r g v w hb (by omega) hd hch ?_ h;rw[hch]at hr;cases r1 with
   |ok x tq=>exact hr
   |bad e j=>simp at hr;exact hr.symm
theorem QAr (L:List Tok) (hl:L.length≤10000) (hsm:Gl L):∀f,(∀f',f'≤f→Gq L f')∧Gp L f:=by
 intro f
 induction f with
 |zero=>
  refine⟨fun f' hf'=>?_,fun i d r g v w _ hr=>by simp[BX]at hr⟩;obtain rfl:f'=0:=by omega
  exact fun b i d r g v w _ _ _ hr=>by simp[Ax]at hr
 |succ f ih=>
  refine⟨fun f' hf'=>?_,Uf L f hl hsm (ih.1 f (Nat.le_refl _)) ih.2⟩;by_cases e:f'=f+1
  ·subst e;exact V5 L f hl ih.1 ih.2
  ·exact ih.1 f' (by omega)
def QAs (q:Parsed) (w:World) (e:Ending) (w':World):Prop:=
 ∃v,e=.returned (.tuple #[v,.int .i64 q.tq,.int .i64 q.err,.int .i64 q.pl])∧CL w' w.heap.size v q.nodes∧Below w.heap.size w w'
theorem JZ {q q':Parsed} {w w':World} {e:Ending} {v:Value} (he:e=.returned (.tuple #[v,.int .i64 q'.tq,.int .i64 q'.err,.int .i64 q'.pl])) (h:q=q') (ho:CL w' w.heap.size v q'.nodes) (hb:Below w.heap.size w w'):QAs q w e w':=by
 subst h;exact⟨v,he,ho,hb⟩
theorem QAt {L:List Tok} {v:Value} {i:Nat} {w:World} (h:Gg w v L) (ht:Tabs w):Sits L (w.alloc (.cells #[v,.int .i64 i,.int .i64 0] 236)) w.heap.size v i 0:=by
 have hb:=(Below.refl w.heap.size w).alloc (Nat.le_refl _) (.cells #[v,.int .i64 i,.int .i64 0] 236);refine⟨⟨by simp,by simp,by simp,by simp,by simp,by simp⟩,?_,ht.on hb,ht.lt2⟩;obtain⟨A,c,hv,hc,hr⟩:=h;refine⟨A,c,hv,hc,fun j t hj=>?_⟩;obtain⟨b,hA,hbl,h0,h1,h2,h3⟩:=hr j t hj;have e:∀o,(w.alloc (.cells #[v,.int .i64 i,.int .i64 0] 236)).cell? ⟨b,o,none⟩=w.cell? ⟨b,o,none⟩:=fun o=>hb.cell (p:=⟨b,o,none⟩) hbl
 exact⟨b,hA,hbl,(e _).trans h0,(e _).trans h1,(e _).trans h2,(e _).trans h3⟩
def Ui (L:List Tok) (i:Int):Res→Parsed
 |.bad e j=>⟨[],0,e,AT L j⟩
 |.ok x tq=>if 12<x.deep then⟨[],0,7,AT L i⟩else if 40<x.size then⟨[],0,2,AT L i⟩else⟨x.flat,tq,0,0⟩
theorem IS (L:List Tok) (k:Nat):EH L k=Ui L k (F9 L k):=by
 unfold EH;rw[if_neg (by omega),Int.toNat_natCast];cases F9 L k<;>rfl
theorem L0 {L:List Tok} {k:Int} {x:Ex} {tq:Nat} (h:12<x.deep):Ui L k (.ok x tq)=⟨[],0,7,AT L k⟩:=by
 show(if 12<x.deep then _ else _)=_;rw[if_pos h]
theorem Ns {L:List Tok} {k:Int} {x:Ex} {tq:Nat} (h:¬12<x.deep) (h2:40<x.size):Ui L k (.ok x tq)=⟨[],0,2,AT L k⟩:=by
 show(if 12<x.deep then _ else if 40<x.size then _ else _)=_;rw[if_neg h,if_pos h2]
theorem Me {L:List Tok} {k:Int} {x:Ex} {tq:Nat} (h:¬12<x.deep) (h2:¬40<x.size):Ui L k (.ok x tq)=⟨x.flat,tq,0,0⟩:=by
 show(if 12<x.deep then _ else if 40<x.size then _ else(⟨x.flat,tq,0,0⟩:Parsed))=_;rw[if_neg h,if_neg h2]
set_option maxRecDepth 100000 in
set_option maxHeartbeats 4000000 in
theorem parse_any (v:Value) (L:List Tok) (i:Int) (w:World) (h:Gg w v L) (ht:Tabs w) (hl:L.length≤10000) (hsm:Gl L):Calls Tryz.prog 185 #[v,.int .i64 i] w (QAs (EH L i) w):=by
 by_cases hi:i<0
 ·have HQ:Hid (EH L i=⟨[],0,1,0⟩):=AA (by unfold EH;rw[if_pos hi]);clear h;go_enter Tryz.func185,Tryz.ntmps185;go_wp2_with fail
  refine bodyPost_ret (v:=.tuple #[.slice none 0 0,.int .i64 0,.int .i64 1,.int .i64 (0)]) (by simp[results,Tryz.results185,go_sem]) rfl ?_;exact JZ (q':=⟨[],0,1,0⟩) rfl HQ.out (Ez _ _) (Below.refl _ _)
 ·obtain⟨k,rfl⟩:∃k:Nat,i=k:=⟨i.toNat,by omega⟩
  have HC:=AA (((QAr L hl hsm (20*(L.length-k)+12)).1 _ (Nat.le_refl _)) 1 k 0 (F9 L k) w.heap.size v _ (by omega) (by omega) (by omega) (Ju L k) (QAt h ht));have HF:=AA (KU L k);have HX:=AA (IS L k);have HSM:=AA hsm;have HR:=AA h;obtain⟨A0,cc0,rfl,_,_⟩:=h;clear ht hsm hi;generalize F9 L k=r at *;have hz:(w.alloc (.cells #[.slice A0 L.length cc0,.int .i64 k,.int .i64 0] 236)).heap.size=w.heap.size+1:=by simp
  have HB0:=AA ((Below.refl w.heap.size w).alloc (Nat.le_refl _) (.cells #[.slice A0 L.length cc0,.int .i64 k,.int .i64 0] 236));go_enter Tryz.func185,Tryz.ntmps185;go_wp2_with fail
  refine HC.out.mono ?_;rintro e w1 ⟨P,A,n,c,hP,rfl,ho,hS,hK⟩;rw[hz]at ho;have hbw:Below w.heap.size w w1:=HB0.out.trans (hK.below (Nat.le_refl _) (by rw[hz];omega));have HP:=AA hP;have HO:=AA ho;have HS:=AA hS;have HB:=AA hbw;have hgl:=hS.rd.lt;obtain⟨⟨_,c0,c1,c2,f1,f2⟩,_,_,_⟩:=hS;clear hP ho hK hbw hz HC HB0 c2 f1 f2;cases r with
  |bad e j=>
   obtain⟨he,_⟩:=HF.out;have he2:(e != 0)=true:=by rcases he with rfl|rfl|rfl<;>rfl
   clear he;simp only[errOf,Gh]at *;have HB2:=AA (HB.out.alloc HB.out.size (.cells #[.slice A n c,.int .i64 P.many,.int .i64 P.deep] 238));go_wp2_with fail
   refine(IP _ L j _ ((HR.out.on HB2.out)) hl HSM.out).mono ?_;rintro e' w2 ⟨rfl,hb⟩;go_wp2_with fail
   refine bodyPost_ret (v:=.tuple #[.slice none 0 0,.int .i64 0,.int .i64 e,.int .i64 (AT L j)]) (by simp[results,Tryz.results185,go_sem]) rfl ?_;exact JZ (q':=⟨[],0,e,AT L j⟩) rfl HX.out (Ez _ _) (AC HB2.out hb)
  |ok x tq=>
   obtain⟨h1,h2,h3,h4,h5⟩:=HF.out;have hdz:=IQ x;obtain rfl:P=BM x:=HP.out;have HB2:=AA (HB.out.alloc HB.out.size (.cells #[.slice A n c,.int .i64 (BM x).many,.int .i64 (BM x).deep] 238));have em:(BM x).many=x.size:=rfl;have ed:(BM x).deep=x.deep:=rfl;simp only[errOf,Gh,em,ed]at *;clear em ed h5;by_cases hd:12<x.deep
   ·have HX2:Hid (EH L k=⟨[],0,7,AT L k⟩):=AA (by rw[HX.out,L0 hd]);have hdi:(12:Int)<(x.deep:Int):=by omega
    go_wp2_with fail
    refine(IP _ L k _ ((HR.out.on HB2.out)) hl HSM.out).mono ?_;rintro e' w2 ⟨rfl,hb⟩;go_wp2_with fail
    refine bodyPost_ret (v:=.tuple #[.slice none 0 0,.int .i64 0,.int .i64 7,.int .i64 (AT L k)]) (by simp[results,Tryz.results185,go_sem]) rfl ?_;exact JZ (q':=⟨[],0,7,AT L k⟩) rfl HX2.out (Ez _ _) (AC HB2.out hb)
   ·have hdi:¬(12:Int)<(x.deep:Int):=by omega
    by_cases hs:40<x.size
    ·have HX2:Hid (EH L k=⟨[],0,2,AT L k⟩):=AA (by rw[HX.out,Ns hd hs]);have hsi:(40:Int)<(x.size:Int):=by omega
     go_wp2_with fail
     refine(IP _ L k _ ((HR.out.on HB2.out)) hl HSM.out).mono ?_;rintro e' w2 ⟨rfl,hb⟩;go_wp2_with fail
     refine bodyPost_ret (v:=.tuple #[.slice none 0 0,.int .i64 0,.int .i64 2,.int .i64 (AT L k)]) (by simp[results,Tryz.results185,go_sem]) rfl ?_;exact JZ (q':=⟨[],0,2,AT L k⟩) rfl HX2.out (Ez _ _) (AC HB2.out hb)
    ·have HX2:Hid (EH L k=⟨x.flat,tq,0,0⟩):=AA (by rw[HX.out,Me hd hs]);have hsi:¬(40:Int)<(x.size:Int):=by omega
     have HO2:Hid (CL w1 w.heap.size (.slice A n c) x.flat):=AA (by
      have h0:=HO.out.base (B':=w.heap.size) (by omega);rw[show(BM x).ns=x.flat from by show(if x.size≤40 then x.flat else[])=_;rw[if_pos (by omega)]]at h0;exact h0)
     go_wp2_with fail
     go_quiet (fail)
     go_wp2_with fail
     refine bodyPost_ret (v:=.tuple #[.slice A n c,.int .i64 tq,.int .i64 0,.int .i64 0]) (by simp[results,Tryz.results185,go_sem]) rfl ?_;exact JZ (q':=⟨x.flat,tq,0,0⟩) rfl HX2.out ((HO2.out.on ((Below.refl _ _).alloc (Nat.le_refl _) _)).on (AO _ _)) (HB2.out.trans (V3 _ _ _))
end Go.Proofs.YthfkpalfopdmhaaGreatDoor
namespace Go.Proofs.YthfkpalfopdmhaaGreatDoor
open Go
theorem IT:∀x:Ex,(E0 x).deep=x.deep
 |.leaf _=>rfl
 |.un _ x=>by simp only[E0,Ex.deep,IT x]
 |.bin _ x y=>by simp only[E0,Ex.deep,IT x,IT y]
theorem IU:∀x:Ex,(E0 x).size=x.size
 |.leaf _=>rfl
 |.un _ x=>by simp only[E0,Ex.size,IU x]
 |.bin _ x y=>by simp only[E0,Ex.size,IU x,IU y]
theorem GK:∀x:Ex,(E0 x).flat=x.flat.map bareN
 |.leaf _=>rfl
 |.un _ x=>by simp only[E0,Ex.flat,GK x,List.map_cons]
 |.bin _ x y=>by simp only[E0,Ex.flat,GK x,GK y,List.map_cons,List.map_append]
theorem eq_bare {a b:Nod} (h:bareN a=bareN b):EI false a b=true:=by
 have h1:a.op=b.op:=show(bareN a).op=(bareN b).op from by rw[h]
 have h2:a.n=b.n:=show(bareN a).n=(bareN b).n from by rw[h]
 have h3:a.name=b.name:=show(bareN a).name=(bareN b).name from by rw[h]
 simp[EI,h1,h2,h3]
theorem Nu:∀{L M:List Nod},L.map bareN=M.map bareN→ET false L M=true
 |[],[],_=>rfl
 |[],b::m,h=>by simp at h
 |a::l,[],h=>by simp at h
 |a::l,b::m,h=>by
  simp only[List.map_cons,List.cons.injEq]at h;have ih:=Nu h.2;unfold ET at *;unfold Ad;rw[eq_bare h.1,ih];rfl
theorem Pe {l:List UInt8}:∀{L:List Tok} {e:Nat},JR l e L→∀t∈L,t.pl+t.text.length≤l.length∧0≤t.n∧t.n≤4294967296
 |[],_,_,t,h=>by simp at h
 |a::L,e,hp,t,h=>by
  obtain⟨h1,h2,h3,h4,h5,h6,h7,h8,h9⟩:=hp;rcases List.mem_cons.1 h with rfl|h
  ·exact⟨h3,h7,h8⟩
  ·exact Pe h9 t h
theorem M3 {l:List UInt8}:∀{L:List Tok} {e:Nat},e≤l.length→JR l e L→L.length+e≤l.length
 |[],e,he,_=>by simpa using he
 |a::L,e,he,hp=>by
  obtain⟨h1,h2,h3,h4,h5,h6,h7,h8,h9⟩:=hp;have:=M3 h3 h9;simp only[List.length_cons];omega
theorem J3 (l:List UInt8):(AS l 0).toks.length≤l.length∧∀t∈(AS l 0).toks,t.pl+t.text.length≤l.length∧0≤t.n∧t.n≤4294967296:=by
 have h:=UN l l 0 (Nat.zero_le _) rfl;exact⟨by have:=M3 (Nat.zero_le _) h;omega,Pe h⟩
theorem Kr {L:List Tok} {n:Nat} (h:∀t∈L,t.pl+t.text.length≤n) (i:Int):0≤AT L i∧AT L i≤n:=by
 by_cases hi:0≤i∧i<L.length
 ·obtain⟨k,rfl⟩:∃k:Nat,i=k:=⟨i.toNat,by omega⟩
  have hk:k<L.length:=by omega
  rw[UM (List.getElem?_eq_getElem hk)];have:=h _ (List.getElem_mem hk);omega
 ·by_cases h0:L=[]
  ·subst h0;rw[Q0];omega
  ·have hp:0<L.length:=List.length_pos_iff.2 h0;rw[Qz hi (List.getElem?_eq_getElem (show L.length-1<L.length by omega))];have:=h _ (List.getElem_mem (show L.length-1<L.length by omega));omega
theorem V6 {l:List UInt8} (h:l.length≤4000):Gl (AS l 0).toks:=by
 intro t ht;have:=(J3 l).2 t ht;omega
theorem QEk {L:List Tok} {n:Nat} (hn:n≤4000) (h:∀t∈L,t.pl+t.text.length≤n∧0≤t.n∧t.n≤4294967296) {a:Nod} (ha:UT L a):CN a=true:=by
 obtain⟨t,ht,hpl,hc⟩:=ha;have:=h t ht;unfold CN;rw[hpl];rcases hc with⟨_,h1,h2,h3⟩|⟨_,hnm,h1,h2,h3⟩|⟨h1,h2,h3,h4⟩
 ·rw[if_pos h1,h2,h3];simp;omega
 ·rw[if_neg (by omega),if_pos h1,h2,h3,hnm];simp;omega
 ·rw[if_neg (by omega),if_neg (by omega),h3,h4];simp;omega
theorem Gs {L:List Nod} (h:BZ L=true):∃x:Ex,L=x.flat∧JY x∧x.deep≤12∧x.size≤40∧Bi L=AZ false x∧QAY L=x.deep:=by
 obtain⟨x,hw,ho,rfl,h40,hall,hd⟩:=Jw h;refine⟨x,rfl,⟨ho,hall⟩,hd,by rw[←B7];exact h40,?_,?_⟩
 ·unfold Bi;rw[hw];simp[h]
 ·unfold QAY;rw[hw];simp[h]
theorem RQ {x:Ex} (h:JY x) (hs:x.size≤40):(AZ false x).length≤840:=by
 have:=KY x false (Nj h.2);omega
inductive RS (α:Type) where
 |ok (a:α) (tq:Nat)
 |bad (e pl:Int)
def RS.bind {α β:Type}:RS α→(α→Nat→RS β)→RS β
 |.ok a tq,k=>k a tq
 |.bad e p,_=>.bad e p
@[simp] theorem RS.bind_ok {α β:Type} (a:α) (tq:Nat) (k:α→Nat→RS β):(RS.ok a tq).bind k=k a tq:=rfl
@[simp] theorem RS.bind_bad {α β:Type} (e p:Int) (k:α→Nat→RS β):(RS.bad e p:RS α).bind k=.bad e p:=rfl
def badR {α:Type} (L:List Tok) (i:Nat) (e:Int):RS α:=.bad (if i<L.length then e else 6) (AT L i)
def Bg (L:List Tok) (i:Nat) (s:List UInt8):RS Unit:=if isB L i s=true then .ok () (i+1)else badR L i 5
def nameAt (L:List Tok) (i:Nat):Option (List UInt8):=match L[i]? with
 |some t=>if t.kind=1∧nameB t.text=true then some t.text else none
 |none=>none
def BW (L:List Tok) (i:Nat):RS (List UInt8):=match nameAt L i with
 |some s=>.ok s (i+1)
 |none=>badR L i 5
def exprP (L:List Tok) (i:Nat):RS (List Nod):=if(EH L i).err=0 then .ok (EH L i).nodes (EH L i).tq.toNat else .bad (EH L i).err (EH L i).pl
def Dc (L:List Tok) (i:Nat):RS Int:=match L[i]? with
 |some t=>if t.kind=2 then(if 1≤t.n∧t.n≤8 then .ok t.n (i+1)else badR L i 11)else badR L i 5
 |none=>badR L i 5
def Ao (L:List Tok) (i:Nat):Nat:=((List.range 15).find? (fun k=>decide (2≤k)&&isB L i (CO.getD k []))).getD 1
def GV (k:Int) (pl:Int):Stm:=⟨k,[],[],[],[],0,0,0,pl⟩
def DC (L:List Tok) (k:Nat) (pl:Int) (i:Nat):RS Stm:=
 if k=1 then(BW L i).bind fun r j=>(Bg L j [61]).bind fun _ j=>(exprP L j).bind fun e j=>.ok {GV k pl with reg:=r,e:=e} j
 else if k=2 then(BW L i).bind fun r j=>(Bg L j [61]).bind fun _ j=>(BW L j).bind fun n j=>.ok {GV k pl with reg:=r,name:=n} j
 else if k=3 then(BW L i).bind fun n j=>(Bg L j [61]).bind fun _ j=>(exprP L j).bind fun e j=>.ok {GV k pl with name:=n,e:=e} j
 else if k=4 then(BW L i).bind fun r j=>(Bg L j [61]).bind fun _ j=>(BW L j).bind fun n j=>(Bg L j [44]).bind fun _ j=>(exprP L j).bind fun e j=>(Bg L j [44]).bind fun _ j=>(exprP L j).bind fun f j=>.ok {GV k pl with reg:=r,name:=n,e:=e,f:=f} j
 else if k=5∨k=6∨k=9∨k=10 then(BW L i).bind fun n j=>.ok {GV k pl with name:=n} j
 else if k=11∨k=14 then(exprP L i).bind fun e j=>.ok {GV k pl with e:=e} j
 else if k=12 then(Dc L i).bind fun n j=>.ok {GV k pl with n:=n} j
 else .ok (GV k pl) i
def RS.obind {α β:Type}:Option (RS α)→(α→Nat→Option (RS β))→Option (RS β)
 |some (.ok a tq),k=>k a tq
 |some (.bad e p),_=>some (.bad e p)
 |none,_=>none
@[simp] theorem RS.obind_ok {α β:Type} (a:α) (tq:Nat) (k:α→Nat→Option (RS β)):RS.obind (some (RS.ok a tq)) k=k a tq:=rfl
@[simp] theorem RS.obind_bad {α β:Type} (e p:Int) (k:α→Nat→Option (RS β)):RS.obind (some (RS.bad e p:RS α)) k=some (.bad e p):=rfl
@[simp] theorem RS.obind_none {α β:Type} (k:α→Nat→Option (RS β)):RS.obind (none:Option (RS α)) k=none:=rfl
theorem RS.obind_some {α β:Type} {o:Option (RS α)} {k:α→Nat→Option (RS β)} {r:RS β} (h:RS.obind o k=some r):(∃a tq,o=some (.ok a tq)∧k a tq=some r)∨(∃e p,o=some (.bad e p)∧r=.bad e p):=by
 rcases o with _|⟨a,tq⟩|⟨e,p⟩
 ·cases h
 ·exact .inl ⟨a,tq,rfl,h⟩
 ·exact .inr ⟨e,p,rfl,by simpa using h.symm⟩
abbrev CU:=Nat→Nat→Nat→Option (RS Bk)
def Bz (row:CU) (L:List Tok) (i d l:Nat):Option (RS Bk):=
 if 12<d∧isB L i [123]=true then some (badR L i 7)
 else RS.obind (some (Bg L i [123])) fun _ j=>RS.obind (row j d l) fun b j=>RS.obind (some (Bg L j [125])) fun _ j=>some (.ok b j)
structure V7 where
 s:Stm
 b:Bk
 e:Bk
def Df (row:CU) (L:List Tok) (k:Nat) (i d l:Nat):Option (RS Bk):=
 if k=11∧isB L i FU=true then Bz row L (i+1) d l else some (.ok .nil i)
def Yn (k l:Nat):Nat:=if k=12 then l+1 else l
def GO (row:CU) (L:List Tok) (i d l:Nat):Option (RS V7):=
 if Ao L i=13∧l=0 then some (badR L i 5)
 else RS.obind (some (DC L (Ao L i) (AT L i) (if Ao L i=1 then i else i+1))) fun s j=>
  if¬GT (Ao L i:Nat)then RS.obind (some (Bg L j [59])) fun _ j=>some (.ok ⟨s,.nil,.nil⟩ j)
  else RS.obind (Bz row L j (d+1) (Yn (Ao L i) l)) fun b j=>RS.obind (Df row L (Ao L i) j (d+1) (Yn (Ao L i) l)) fun e j=>some (.ok ⟨{s with body:=b.count,els:=e.count},b,e⟩ j)
def Ci (L:List Tok):Nat→CU
 |0=>fun _ _ _=>none
 |f+1=>fun i d l=>if isB L i [125]=true then some (.ok .nil i)
  else RS.obind (GO (Ci L f) L i d l) fun o j=>RS.obind (Ci L f j d l) fun r j=>some (.ok (.cons o.s o.b o.e r) j)
def Ec {α:Type} (L:List Tok) (i:Nat) (r:RS α):Prop:=match r with
 |.ok _ tq=>i<tq∧tq≤L.length
 |.bad e _=>e≠0
def JJ {α:Type} (L:List Tok) (i:Nat) (r:RS α):Prop:=match r with
 |.ok _ tq=>i≤tq∧tq≤L.length
 |.bad e _=>e≠0
theorem Ec.le {α:Type} {L:List Tok} {i:Nat} {r:RS α} (h:Ec L i r):JJ L i r:=by
 cases r with
 |ok a tq=>exact⟨by have:=h.1;omega,h.2⟩
 |bad e p=>exact h
theorem GL {α:Type} {L:List Tok} {i j:Nat} {e:Int} (he:e≠0):Ec L j (badR L i e:RS α):=by
 unfold badR Ec;simp only;split<;>omega
theorem Ae (L:List Tok) (i:Nat) (s:List UInt8):Ec L i (Bg L i s):=by
 unfold Bg;split
 ·rename_i h;have:=Bt h;exact⟨by omega,by omega⟩
 ·exact GL (by omega)
theorem IV {L:List Tok} {i:Nat} {s:List UInt8} (h:nameAt L i=some s):i<L.length∧nameB s=true:=by
 unfold nameAt at h;split at h
 ·rename_i t ht
  split at h
  ·rename_i hc
   simp at h;subst h;exact⟨(List.getElem?_eq_some_iff.1 ht).1,hc.2⟩
  ·cases h
 ·cases h
theorem Aq (L:List Tok) (i:Nat):Ec L i (BW L i):=by
 unfold BW;split
 ·rename_i h;have:=(IV h).1;exact⟨by omega,by omega⟩
 ·exact GL (by omega)
theorem I5 (L:List Tok) (i:Nat):Ec L i (Dc L i):=by
 unfold Dc;split
 ·rename_i t ht
  have hi:=(List.getElem?_eq_some_iff.1 ht).1;split
  ·split
   ·exact⟨by omega,by omega⟩
   ·exact GL (by omega)
  ·exact GL (by omega)
 ·exact GL (by omega)
theorem J4 (L:List Tok) (i:Nat):((EH L i).err≠0∧(EH L i).nodes=[]∧(EH L i).tq=0)∨
  (∃x:Ex,x.ok∧x.deep≤12∧x.size≤40∧(∀a∈x.flat,UT L a)∧∃tq:Nat,EH L i=⟨x.flat,tq,0,0⟩∧i<tq∧tq≤L.length):=by
 have hf:=KU L i;rw[IS];cases hp:F9 L i with
 |bad e j=>
  rw[hp]at hf;obtain⟨h3,_⟩:=hf;exact .inl ⟨by show e≠0;omega,rfl,rfl⟩
 |ok x tq=>
  rw[hp]at hf;obtain⟨g1,g2,g3,g4,g5⟩:=hf;by_cases hd:12<x.deep
  ·rw[L0 hd];exact .inl ⟨by show(7:Int)≠0;decide,rfl,rfl⟩
  ·by_cases hs:40<x.size
   ·rw[Ns hd hs];exact .inl ⟨by show(2:Int)≠0;decide,rfl,rfl⟩
   ·rw[Me hd hs];exact .inr ⟨x,g3,by omega,by omega,g5,tq,rfl,by omega,g2⟩
theorem BQ (L:List Tok) (i:Nat):Ec L i (exprP L i):=by
 unfold exprP;rcases J4 L i with⟨h,_⟩|⟨x,_,_,_,_,tq,h,h1,h2⟩
 ·rw[if_neg h];exact h
 ·rw[h];exact⟨by simpa using h1,by simpa using h2⟩
theorem Az {α β:Type} {L:List Tok} {i:Nat} {r:RS α} {k:α→Nat→RS β} (h:Ec L i r) (hk:∀a j,r=.ok a j→JJ L j (k a j)):Ec L i (r.bind k):=by
 cases r with
 |bad e p=>exact h
 |ok a j=>
  have:=hk a j rfl;have h1:=h.1;simp only[RS.bind_ok];cases hr:k a j with
  |ok b tq=>rw[hr]at this;exact⟨by have:=this.1;omega,this.2⟩
  |bad e p=>rw[hr]at this;exact this
theorem E4 {α:Type} {L:List Tok} {j:Nat} (a:α) (h:j≤L.length):JJ L j (RS.ok a j):=⟨Nat.le_refl _,h⟩
theorem Ec.tq {α:Type} {L:List Tok} {i j:Nat} {a:α} {r:RS α} (h:Ec L i r) (e:r=.ok a j):j≤L.length:=by subst e;exact h.2
theorem Uj (L:List Tok) (k:Nat) (pl:Int) (i:Nat) (hi:i≤L.length):JJ L i (DC L k pl i):=by
 unfold DC
 repeat' split
 ·exact(Az (Aq L i) fun r j _=>(Az (Ae L j _) fun _ j _=>(Az (BQ L j) fun e j he=>E4 _ ((BQ L _).tq he)).le).le).le
 ·exact(Az (Aq L i) fun r j _=>(Az (Ae L j _) fun _ j _=>(Az (Aq L j) fun e j he=>E4 _ ((Aq L _).tq he)).le).le).le
 ·exact(Az (Aq L i) fun r j _=>(Az (Ae L j _) fun _ j _=>(Az (BQ L j) fun e j he=>E4 _ ((BQ L _).tq he)).le).le).le
 ·exact(Az (Aq L i) fun r j _=>(Az (Ae L j _) fun _ j _=>(Az (Aq L j) fun e j _=>(Az (Ae L j _) fun _ j _=>(Az (BQ L j) fun e j _=>(Az (Ae L j _) fun _ j _=>(Az (BQ L j) fun e j he=>E4 _ ((BQ L _).tq he)).le).le).le).le).le).le).le
 ·exact(Az (Aq L i) fun r j he=>E4 _ ((Aq L _).tq he)).le
 ·exact(Az (BQ L i) fun r j he=>E4 _ ((BQ L _).tq he)).le
 ·exact(Az (I5 L i) fun r j he=>E4 _ ((I5 L _).tq he)).le
 ·exact E4 _ hi
theorem FO (L:List Tok) (i:Nat):Ao L i=1∨(2≤Ao L i∧Ao L i≤14∧isB L i (CO.getD (Ao L i) [])=true):=by
 unfold Ao;cases h:(List.range 15).find? (fun k=>decide (2≤k)&&isB L i (CO.getD k []))with
 |none=>exact .inl rfl
 |some k=>
  have h1:=List.find?_some h;have h2:=List.mem_of_find?_eq_some h;simp only[Bool.and_eq_true,decide_eq_true_eq]at h1;rw[List.mem_range]at h2;exact .inr ⟨h1.1,by show k≤14;omega,h1.2⟩
theorem Pg (L:List Tok) (i:Nat):1≤Ao L i∧Ao L i≤14:=by
 rcases FO L i with h|⟨h1,h2,_⟩<;>omega
end Go.Proofs.YthfkpalfopdmhaaGreatDoor
