/- Texts of the walk, packed. -/
import Derived.Test.YthfkpalfopdmhaaGreatDoorX18
import Derived.Test.YthfkpalfopdmhaaGreatDoorX30
import Derived.Test.YthfkpalfopdmhaaGreatDoorX34
import Derived.Test.YthfkpalfopdmhaaGreatDoorX36
import Derived.Test.YthfkpalfopdmhaaGreatDoorX38
import Derived.Test.YthfkpalfopdmhaaGreatDoorX40
import Derived.Test.YthfkpalfopdmhaaGreatDoorX42
import Derived.Test.YthfkpalfopdmhaaGreatDoorX44
import Derived.Test.YthfkpalfopdmhaaGreatDoorX46
import Derived.Test.YthfkpalfopdmhaaGreatDoorX47
import Derived.Test.YthfkpalfopdmhaaGreatDoorX00
import Derived.Test.YthfkpalfopdmhaaGreatDoorE1
import Derived.Test.YthfkpalfopdmhaaGreatDoorE2
import Derived.Test.YthfkpalfopdmhaaGreatDoorE3
namespace Go.Proofs.YthfkpalfopdmhaaGreatDoor
open Go
theorem QIK {p:Prg} (h:BP p=false):Ek p=[]:=by unfold Ek;rw[h];rfl
end Go.Proofs.YthfkpalfopdmhaaGreatDoor
namespace Go.Proofs.YthfkpalfopdmhaaGreatDoor
open Go.RowKit
set_option maxRecDepth 100000 in
set_option maxHeartbeats 16000000 in
theorem QI6 (hfix:∀w,Tabs w->Calls Tryz.prog 13 #[] w (XO w)) (p:QHz) (w:World) (hA:QH0 w p) (ht:Tabs w):Calls Tryz.prog 6 #[QH1 p] w (XO w):=by
 have HFX:=AA hfix;have HT:=AA ht;have HS:=AA (QIR p);have HTX:=AA (fun h=>QIT (p:=p) h);have hal:=(Below.refl w.heap.size w).alloc (Nat.le_refl _) (.cells #[.slice p.aL p.nL p.cL,.slice p.aV p.nV p.cV,.slice p.aK p.nK p.cK,.slice p.aT p.nT p.cT,.slice p.aO p.nO p.cO,.slice p.aM p.nM p.cM] 27);have HB:=AA hal;have HX:=AA (I0 w (.slice p.aL p.nL p.cL) (.slice p.aV p.nV p.cV) (.slice p.aK p.nK p.cK) (.slice p.aT p.nT p.cT) (.slice p.aO p.nO p.cO) (.slice p.aM p.nM p.cM));have HC:=AA (QI5 p _ (hA.on hal));obtain⟨b0,hb0⟩:∃b,w.heap.size=b:=⟨_,rfl⟩
 clear ht hA hal hfix;unfold QH1 at HC⊢;go_enter Tryz.func6,Tryz.ntmps6;go_upto_region 1 with(fail)
 rw[hb0]at HX;generalize w.alloc (.cells #[.slice p.aL p.nL p.cL,.slice p.aV p.nV p.cV,.slice p.aK p.nK p.cK,.slice p.aT p.nT p.cT,.slice p.aO p.nO p.cO,.slice p.aM p.nM p.cM] 27)=x0 at *;have HB0:=AA hb0;clear hb0;obtain⟨l,z0,z1,z2,z3,z4,z5, -, -, -, -, -, -⟩:=AI HX.out;go_wp2_with fail
 refine HC.out.mono ?_;rintro e w1 ⟨u,rfl,ho,hb⟩;obtain⟨A1,n1,m1,A2,n2,m2,A3,n3,m3,A4,n4,m4,A5,n5,m5,A6,n6,m6,rfl⟩:=ho.forms;have hx1:=HX.out.on hb;have hk:=MG w1 b0 ⟨.slice A1 n1 m1,.slice A2 n2 m2,.slice A3 n3 m3,.slice A4 n4 m4,.slice A5 n5 m5,.slice A6 n6 m6⟩;have hp1:=Qf hx1 ⟨.slice A1 n1 m1,.slice A2 n2 m2,.slice A3 n3 m3,.slice A4 n4 m4,.slice A5 n5 m5,.slice A6 n6 m6⟩;have ha1:=ho.keepT hk (QIr (show w1.heap[b0]?=some (.cells _ 27 (0,0))from hx1) (by decide));have hw1:=(AC HB.out hb).trans (hk.below (fun q hq e=>by have:=HB0.out;omega) (AC HB.out hb).size);clear l z0 z1 z2 z3 z4 z5 HC
 obtain⟨l,z0,z1,z2,z3,z4,z5,k0,k1,k2,k3,k4,k5⟩:=AI hx1;unfold DU;unfold Jn at hp1 ha1 hw1;replace HX:=AA hp1;replace HB:=AA hw1;have HA:=AA ha1;clear hp1 hw1 ha1 hk hx1 ho hb;go_upto_region 2 with(fail)
 generalize((((((w1.setCell ⟨b0,0,none⟩ (.slice A1 n1 m1)).setCell ⟨b0,1,none⟩ (.slice A2 n2 m2)).setCell ⟨b0,2,none⟩ (.slice A3 n3 m3)).setCell ⟨b0,3,none⟩ (.slice A4 n4 m4)).setCell ⟨b0,4,none⟩ (.slice A5 n5 m5)).setCell ⟨b0,5,none⟩ (.slice A6 n6 m6))=V at *;clear l z0 z1 z2 z3 z4 z5 k0 k1 k2 k3 k4 k5;obtain⟨sh,hsh⟩:∃sh,Ek (QH9 p)=sh:=⟨_,rfl⟩
 have HSH:=AA hsh;have HC1:=AA (QIV HA.out HS.out.1 (HT.out.on HB.out) HTX.out);rw[hsh]at HC1;obtain⟨l,z0,z1,z2,z3,z4,z5, -, -, -, -, -, -⟩:=AI HX.out;clear hsh;unfold DU at HC1;go_wp2_with fail
 refine HC1.out.mono ?_;rintro e w2 ⟨rfl,hb⟩;replace HB:=AA (AC HB.out hb);replace HA:=AA (HA.out.on hb);replace HX:=AA (HX.out.on hb);clear hb l z0 z1 z2 z3 z4 z5 HC1;obtain⟨l,z0,z1,z2,z3,z4,z5, -, -, -, -, -, -⟩:=AI HX.out;have HC2:=AA (Tz HA.out HS.out.1 (HT.out.on HB.out));obtain⟨q,hq⟩:∃q,BP (QH9 p)=q:=⟨_,rfl⟩
 have HQ:=AA hq;rw[hq]at HC2;clear hq;unfold DU at HC2;go_wp2_with fail
 refine HC2.out.mono ?_;rintro e w3 ⟨rfl,hb⟩;replace HB:=AA (AC HB.out hb);replace HA:=AA (HA.out.on hb);replace HX:=AA (HX.out.on hb);clear hb l z0 z1 z2 z3 z4 z5 HC2;cases q with
 |false=>
  obtain rfl:sh=[]:=by rw[<-HSH.out];exact QIK HQ.out
  go_wp2_with fail
  refine(HFX.out _ (HT.out.on HB.out)).mono ?_;rintro e w4 ⟨rfl,hb⟩;go_wp2_with fail
  go_ret;exact⟨rfl,AC HB.out hb⟩
 |true=>
  go_wp2_with fail
  refine(MH ⟨sh.toArray⟩ _ (HT.out.on HB.out)).mono ?_;rw[show(ByteArray.mk sh.toArray).data.toList=sh from by simp];rintro e w4 ⟨v2,rfl,ho,hb⟩;replace HB:=AA (AC HB.out hb);replace HA:=AA (HA.out.on hb);replace HX:=AA (HX.out.on hb);obtain⟨C1,r1,s1,C2,r2,s2,C3,r3,s3,C4,r4,s4,C5,r5,s5,C6,r6,s6,rfl⟩:=ho.forms;have hal:=(Below.refl w4.heap.size w4).alloc (Nat.le_refl _) (.cells #[.slice C1 r1 s1,.slice C2 r2 s2,.slice C3 r3 s3,.slice C4 r4 s4,.slice C5 r5 s5,.slice C6 r6 s6] 27);have HX2:=AA (I0 w4 (.slice C1 r1 s1) (.slice C2 r2 s2) (.slice C3 r3 s3) (.slice C4 r4 s4) (.slice C5 r5 s5) (.slice C6 r6 s6))
  have HA2:=AA (ho.on hal);replace HB:=AA (AC HB.out hal);replace HA:=AA (HA.out.on hal);replace HX:=AA (HX.out.on hal);obtain⟨b2,hb2⟩:∃b,w4.heap.size=b:=⟨_,rfl⟩
  have HQ2:Hid (Bm sh=⟨(Bm sh).p,(Bm sh).err,(Bm sh).pl⟩):=AA rfl;generalize(Bm sh).p=Q at *;generalize(Bm sh).err=er2 at *;generalize(Bm sh).pl=pl2 at *;clear ho hb hal;unfold DU;go_upto_region 6 with(fail)
  rw[hb2]at HX2;generalize w4.alloc (.cells #[.slice C1 r1 s1,.slice C2 r2 s2,.slice C3 r3 s3,.slice C4 r4 s4,.slice C5 r5 s5,.slice C6 r6 s6] 27)=x3 at *;clear hb2;by_cases hbig:4000<sh.length
  ·have hq:=(QCZ hbig).symm.trans HQ2.out;simp only[ParsedP.mk.injEq]at hq;obtain⟨-,he2, -⟩:=hq;subst he2;have hcmp:(4000:Int)<(sh.length:Int):=by omega
   go_wp2_with fail
   refine(HFX.out _ (HT.out.on HB.out)).mono ?_;rintro e w5 ⟨rfl,hb⟩;go_wp2_with fail
   go_ret;exact⟨rfl,AC HB.out hb⟩
  ·obtain⟨q,k1,k2,k3,k4⟩:=QGl HQ.out (by rw[HSH.out];omega);rw[HSH.out]at k1 k4;have hq:=k1.symm.trans HQ2.out;simp only[ParsedP.mk.injEq]at hq;obtain⟨he1,he2,he3⟩:=hq;subst he1 he2 he3;have HC3:=AA (X4 HA.out HA2.out HS.out.1);rw[k3]at HC3;have hcmp:¬(4000:Int)<(sh.length:Int):=by omega
   obtain⟨l,z0,z1,z2,z3,z4,z5, -, -, -, -, -, -⟩:=AI HX.out;obtain⟨l2,y0,y1,y2,y3,y4,y5, -, -, -, -, -, -⟩:=AI HX2.out;unfold DU at HC3;clear k1 k2 k3 k4;go_wp2_with fail
   refine HC3.out.mono ?_;rintro e w5 ⟨rfl,hb⟩;replace HB:=AA (AC HB.out hb);clear hb l z0 z1 z2 z3 z4 z5 HC3 HA HX HA2 HX2 l2 y0 y1 y2 y3 y4 y5;go_wp2_with fail
   refine(HFX.out _ (HT.out.on HB.out)).mono ?_;rintro e w6 ⟨rfl,hb⟩;go_wp2_with fail
   go_ret;exact⟨rfl,AC HB.out hb⟩
end Go.Proofs.YthfkpalfopdmhaaGreatDoor
