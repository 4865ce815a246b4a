/- Texts of the walk, packed. -/
import Derived.Test.YthfkpalfopdmhaaGreatDoorW47
import Derived.Test.YthfkpalfopdmhaaGreatDoorW48
import Derived.Test.YthfkpalfopdmhaaGreatDoorW16
import Derived.Test.YthfkpalfopdmhaaGreatDoorW49
import Derived.Test.YthfkpalfopdmhaaGreatDoorW00
namespace Go.Proofs.YthfkpalfopdmhaaGreatDoor
open Go.RowKit
theorem X4 (l:List UInt8):(ByteArray.mk l.toArray).data.toList=l:=by simp
theorem Ur {sh t:List UInt8} {b:ByteArray} {v:ParsedP} {w:World} (hb:b=⟨t.toArray⟩) (g:EN (sh++t)=v) (ht:Tabs w):Calls Tryz.prog 10 #[.string (⟨sh.toArray⟩++b)] w (KT v w):=by
 subst hb;have:=Oh ⟨(sh++t).toArray⟩ w ht;rw[X4,g,<-CO]at this;exact this
set_option maxRecDepth 100000 in
set_option maxHeartbeats 16000000 in
theorem X5 (hfix:∀w,Tabs w->Calls Tryz.prog 13 #[] w (X3 w)) (p:MR) (w:World) (hA:QAI w p) (ht:Tabs w):Calls Tryz.prog 8 #[QAJ p] w (X3 w):=by
 have HFX:=AA hfix;have HT:=AA ht;have HS:=AA (QA2 p);have HTX:=AA (fun h=>QDM (p:=p) h);have hal:=(Below.refl w.heap.size w).alloc (Nat.le_refl _) (.cells #[.slice p.aL p.nL p.cL,.slice p.aV p.nV p.cV,.slice p.aK p.nK p.cK,.slice p.aT p.nT p.cT,.slice p.aO p.nO p.cO,.slice p.aM p.nM p.cM] 27);have HB:=AA hal;have HX:=AA (Js w (.slice p.aL p.nL p.cL) (.slice p.aV p.nV p.cV) (.slice p.aK p.nK p.cK) (.slice p.aT p.nT p.cT) (.slice p.aO p.nO p.cO) (.slice p.aM p.nM p.cM));have HC:=AA (QDW p _ (hA.on hal));obtain⟨b0,hb0⟩:∃b,w.heap.size=b:=⟨_,rfl⟩
 clear ht hA hal hfix;unfold QAJ at HC⊢;go_enter Tryz.func8,Tryz.ntmps8;go_upto_region 1 with(fail)
 rw[hb0]at HX;generalize w.alloc (.cells #[.slice p.aL p.nL p.cL,.slice p.aV p.nV p.cV,.slice p.aK p.nK p.cK,.slice p.aT p.nT p.cT,.slice p.aO p.nO p.cO,.slice p.aM p.nM p.cM] 27)=x0 at *;have HB0:=AA hb0;clear hb0;obtain⟨l,z0,z1,z2,z3,z4,z5, -, -, -, -, -, -⟩:=AX HX.out;go_wp2_with fail
 refine HC.out.mono ?_;rintro e w1 ⟨u,rfl,ho,hb⟩;obtain⟨A1,n1,m1,A2,n2,m2,A3,n3,m3,A4,n4,m4,A5,n5,m5,A6,n6,m6,rfl⟩:=ho.forms;have hx1:=HX.out.on hb;have hk:=KU w1 b0 ⟨.slice A1 n1 m1,.slice A2 n2 m2,.slice A3 n3 m3,.slice A4 n4 m4,.slice A5 n5 m5,.slice A6 n6 m6⟩;have hp1:=Nu hx1 ⟨.slice A1 n1 m1,.slice A2 n2 m2,.slice A3 n3 m3,.slice A4 n4 m4,.slice A5 n5 m5,.slice A6 n6 m6⟩;have ha1:=ho.keepT hk (Ks (show w1.heap[b0]?=some (.cells _ 27 (0,0))from hx1) (by decide));have hw1:=(AC HB.out hb).trans (hk.below (fun q hq e=>by have:=HB0.out;omega) (AC HB.out hb).size);clear l z0 z1 z2 z3 z4 z5 HC
 obtain⟨l,z0,z1,z2,z3,z4,z5,k0,k1,k2,k3,k4,k5⟩:=AX hx1;unfold Hl;unfold JB at hp1 ha1 hw1;replace HX:=AA hp1;replace HB:=AA hw1;have HA:=AA ha1;clear hp1 hw1 ha1 hk hx1 ho hb;go_upto_region 2 with(fail)
 generalize((((((w1.setCell ⟨b0,0,none⟩ (.slice A1 n1 m1)).setCell ⟨b0,1,none⟩ (.slice A2 n2 m2)).setCell ⟨b0,2,none⟩ (.slice A3 n3 m3)).setCell ⟨b0,3,none⟩ (.slice A4 n4 m4)).setCell ⟨b0,4,none⟩ (.slice A5 n5 m5)).setCell ⟨b0,5,none⟩ (.slice A6 n6 m6))=V at *;clear l z0 z1 z2 z3 z4 z5 k0 k1 k2 k3 k4 k5;obtain⟨sh,hsh⟩:∃sh,JJ (Nj p)=sh:=⟨_,rfl⟩
 have HSH:=AA hsh;have HC1:=AA (QA3 HA.out HS.out.1 (HT.out.on HB.out) HTX.out);rw[hsh]at HC1;obtain⟨l,z0,z1,z2,z3,z4,z5, -, -, -, -, -, -⟩:=AX HX.out;clear hsh;unfold Hl at HC1;go_wp2_with fail
 refine HC1.out.mono ?_;rintro e w2 ⟨rfl,hb⟩;replace HB:=AA (AC HB.out hb);replace HA:=AA (HA.out.on hb);replace HX:=AA (HX.out.on hb);clear hb l z0 z1 z2 z3 z4 z5 HC1;obtain⟨l,z0,z1,z2,z3,z4,z5, -, -, -, -, -, -⟩:=AX HX.out;have HC2:=AA (RJ HA.out HS.out.1 (HT.out.on HB.out));obtain⟨q,hq⟩:∃q,BH (Nj p)=q:=⟨_,rfl⟩
 have HQ:=AA hq;rw[hq]at HC2;clear hq;unfold Hl at HC2;go_wp2_with fail
 refine HC2.out.mono ?_;rintro e w3 ⟨rfl,hb⟩;replace HB:=AA (AC HB.out hb);replace HA:=AA (HA.out.on hb);replace HX:=AA (HX.out.on hb);clear hb l z0 z1 z2 z3 z4 z5 HC2;cases q with
 |false=>
  go_wp2_with fail
  refine(HFX.out _ (HT.out.on HB.out)).mono ?_;rintro e w9 ⟨rfl,hb⟩;go_wp2_with fail
  go_ret;exact⟨rfl,AC HB.out hb⟩
 |true=>
  have he:BQ (Nj p)=sh:=by rw[<-SZ HQ.out,HSH.out]
  have HTE:=AA he;have hn4:n4=(Nj p).threads.length:=by
   obtain⟨K,hK,hm⟩:=HA.out.threads;obtain⟨A,c,hv,_⟩:=hK.reads;simp only[Value.slice.injEq]at hv;rw[hv.2.1,<-hm,List.length_map]
  have HN4:=AA hn4;clear he hn4;obtain⟨l,z0,z1,z2,z3,z4,z5, -, -, -, -, -, -⟩:=AX HX.out;by_cases hbig:3000<sh.length
  ·have hcmp:(3000:Int)<(sh.length:Int):=by omega
   go_wp2_with fail
   refine(HFX.out _ (HT.out.on HB.out)).mono ?_;rintro e w9 ⟨rfl,hb⟩;go_wp2_with fail
   go_ret;exact⟨rfl,AC HB.out hb⟩
  by_cases hz:n4=0
  ·have hcmp:¬(3000:Int)<(sh.length:Int):=by omega
   have hz4:((n4:Nat):Int)=0:=by omega
   go_wp2_with fail
   refine(HFX.out _ (HT.out.on HB.out)).mono ?_;rintro e w9 ⟨rfl,hb⟩;go_wp2_with fail
   go_ret;exact⟨rfl,AC HB.out hb⟩
  have hcmp:¬(3000:Int)<(sh.length:Int):=by omega
  have hz4:¬(n4:Int)=0:=by omega
  have hz5:((n4:Int)==0)=false:=by simpa using hz
  have g1:=Xd HQ.out (fun e=>by have:=HN4.out;rw[e]at this;simp at this;omega) (by rw[HTE.out];omega);obtain⟨qc,g2⟩:=Vs HQ.out (by rw[HTE.out];omega);have g3:=UJ HQ.out (by rw[HTE.out];omega);rw[HTE.out]at g1 g2 g3;have G1:=AA g1;have G2:=AA g2;have G3:=AA g3;have hc7:¬(9223372036854775807<sh.length+7):=by omega
  have hc9:¬(9223372036854775807<sh.length+9):=by omega
  have hc22:¬(9223372036854775807<sh.length+22):=by omega
  clear g1 g2 g3 HA;go_wp2_with fail
  refine(Ur (t:=Qu) (b:=⟨#[108,105,110,101,32,122,59]⟩) rfl G1.out (HT.out.on HB.out)).mono ?_;rintro e u4 ⟨v4,rfl,ho,hb⟩;replace HB:=AA (AC HB.out hb);obtain⟨C1,cr1,cs1,C2,cr2,cs2,C3,cr3,cs3,C4,cr4,cs4,C5,cr5,cs5,C6,cr6,cs6,rfl⟩:=ho.forms;have hal:=(Below.refl u4.heap.size u4).alloc (Nat.le_refl _) (.cells #[.slice C1 cr1 cs1,.slice C2 cr2 cs2,.slice C3 cr3 cs3,.slice C4 cr4 cs4,.slice C5 cr5 cs5,.slice C6 cr6 cs6] 27);replace HB:=AA (AC HB.out hal);clear ho hb hal;unfold Hl;go_upto_region 6 with(fail)
  generalize u4.alloc (.cells #[.slice C1 cr1 cs1,.slice C2 cr2 cs2,.slice C3 cr3 cs3,.slice C4 cr4 cs4,.slice C5 cr5 cs5,.slice C6 cr6 cs6] 27)=x4 at *;go_wp2_with fail
  refine(Ur (t:=Es) (b:=⟨#[97,108,119,97,121,115,32,122,59]⟩) rfl G2.out (HT.out.on HB.out)).mono ?_;rintro e u5 ⟨v5,rfl,ho,hb⟩;replace HB:=AA (AC HB.out hb);obtain⟨D1,dr1,ds1,D2,dr2,ds2,D3,dr3,ds3,D4,dr4,ds4,D5,dr5,ds5,D6,dr6,ds6,rfl⟩:=ho.forms;have hal:=(Below.refl u5.heap.size u5).alloc (Nat.le_refl _) (.cells #[.slice D1 dr1 ds1,.slice D2 dr2 ds2,.slice D3 dr3 ds3,.slice D4 dr4 ds4,.slice D5 dr5 ds5,.slice D6 dr6 ds6] 27);replace HB:=AA (AC HB.out hal);clear ho hb hal;unfold Hl;go_upto_region 7 with(fail)
  generalize u5.alloc (.cells #[.slice D1 dr1 ds1,.slice D2 dr2 ds2,.slice D3 dr3 ds3,.slice D4 dr4 ds4,.slice D5 dr5 ds5,.slice D6 dr6 ds6] 27)=x5 at *;go_wp2_with fail
  refine(Ur (t:=(Es++KO)) (b:=⟨#[97,108,119,97,121,115,32,122,59,32,116,104,114,101,97,100,32,122,32,123,32,125]⟩) rfl G3.out (HT.out.on HB.out)).mono ?_;rintro e u6 ⟨v6,rfl,ho,hb⟩;replace HB:=AA (AC HB.out hb);obtain⟨E1,er1,es1,E2,er2,es2,E3,er3,es3,E4,er4,es4,E5,er5,es5,E6,er6,es6,rfl⟩:=ho.forms;have hal:=(Below.refl u6.heap.size u6).alloc (Nat.le_refl _) (.cells #[.slice E1 er1 es1,.slice E2 er2 es2,.slice E3 er3 es3,.slice E4 er4 es4,.slice E5 er5 es5,.slice E6 er6 es6] 27);replace HB:=AA (AC HB.out hal);clear ho hb hal;unfold Hl;go_upto_region 8 with(fail)
  generalize u6.alloc (.cells #[.slice E1 er1 es1,.slice E2 er2 es2,.slice E3 er3 es3,.slice E4 er4 es4,.slice E5 er5 es5,.slice E6 er6 es6] 27)=x6 at *;clear l z0 z1 z2 z3 z4 z5;go_wp2_with fail
  refine(HFX.out _ (HT.out.on HB.out)).mono ?_;rintro e w9 ⟨rfl,hb⟩;go_wp2_with fail
  go_ret;exact⟨rfl,AC HB.out hb⟩
end Go.Proofs.YthfkpalfopdmhaaGreatDoor
