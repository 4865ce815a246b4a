/- Texts of the walk, packed. -/
import Derived.Test.YthfkpalfopdmhaaGreatDoorX48
import Derived.Test.YthfkpalfopdmhaaGreatDoorX40
import Derived.Test.YthfkpalfopdmhaaGreatDoorX00
namespace Go.Proofs.YthfkpalfopdmhaaGreatDoor
open Go.RowKit
theorem QAB (s:ByteArray) (n:Nat):(s.extract 0 (min (s.size:Int) n).toNat).size≤n:=by
 rw[ByteArray.size_extract];omega
theorem Ob {s:List UInt8} {p:Prg} (hs:s.length≤4000) (h:Bm s=⟨p,0,0⟩) (hr:BP p=true):Ov p∧(Gv p).length≤900000000:=by
 have hf:=(J3 s).1;unfold Bm at h;rw[if_neg (by omega)]at h;by_cases he:(AS s 0).err=0
 ·rw[if_pos he]at h;generalize(AS s 0).toks=T at *;obtain⟨r,hp⟩:=MB T;rw[hp]at h;cases r with
  |bad e q=>
   have h2:(⟨noPg,e,q⟩:ParsedP)=⟨p,0,0⟩:=h;simp only[ParsedP.mk.injEq]at h2;obtain⟨rfl, -, -⟩:=h2;exact⟨⟨by decide,fun l h=>(by cases h),by decide,by decide,by decide,fun l h=>(by cases h),by decide,fun l h=>(by cases h),by decide⟩,by decide⟩
  |ok p' j=>
   have h2:(⟨p',0,0⟩:ParsedP)=⟨p,0,0⟩:=h;simp only[ParsedP.mk.injEq,and_true]at h2;subst h2;have c:=XQ hp;refine⟨?_,XR hr (n:=T.length) (by omega) c⟩;obtain⟨c1,c2,c3,c4,c5,c6,c7⟩:=c;have l1:=NX List.length p'.lines;have l4:=NX (fun t:Thr=>t.regs.length) p'.threads;exact⟨by omega,fun l hl=>by have:=Qj List.length p'.lines l hl;omega,by omega,by omega,by omega,fun t ht=>by have:=Qj (fun t:Thr=>t.regs.length) p'.threads t ht;omega,by omega,fun t ht=>by have:=c6 t ht;omega,by omega⟩
 ·rw[if_neg he]at h;simp only[ParsedP.mk.injEq]at h;exact absurd h.2.1 he
theorem noS:IL noPg:=⟨by decide,fun l h=>(by cases h),by decide,fun c h=>(by cases h),by decide,fun c h=>(by cases h),by decide,fun t h=>(by cases h),by decide,fun t h=>(by cases h),by decide,fun c h=>(by cases h)⟩
theorem fm0 {w:World} {B B':Nat} {v u:Pv} (h:CP w B v noPg) (k:CP w B' u noPg):Calls Tryz.prog 20 #[DU v,DU u] w (AN true w):=by
 have:=X4 h k noS
 rwa [show Gw false noPg noPg=true from by decide+kernel]at this
theorem QCZ {s:List UInt8} (h:4000<s.length):Bm s=⟨noPg,2,4000⟩:=by unfold Bm;rw[if_pos h]
set_option maxRecDepth 100000 in
set_option maxHeartbeats 16000000 in
theorem QAC (hfix:∀w,Tabs w→Calls Tryz.prog 13 #[] w (XO w)) (s:ByteArray) (w:World) (ht:Tabs w):Calls Tryz.prog 5 #[.string s] w (XO w):=by
 have HU:=AA (QAB s 2000);have HFX:=AA hfix;have HT:=AA ht;clear ht hfix;go_enter Tryz.func5,Tryz.ntmps5;go_wp2_with fail
 change Calls _ _ #[.string (s.extract 0 (min (s.size:Int) (2000:Nat)).toNat)] _ _;generalize s.extract 0 (min (s.size:Int) (2000:Nat)).toNat=u at *;generalize min (s.size:Int) 2000=mm;have hu:=HU.out;have hul:u.data.toList.length=u.size:=GP u;have hp5:=QB0 u.data.toList (by omega);have hcn:=fun p h hr=>Ob (p:=p) (s:=u.data.toList) (by omega) h hr
 rw[hul]at hp5;refine(MH u _ HT.out).mono ?_;have hq2:Bm u.data.toList=⟨(Bm u.data.toList).p,(Bm u.data.toList).err,(Bm u.data.toList).pl⟩:=rfl;generalize(Bm u.data.toList).p=P at *;generalize(Bm u.data.toList).err=er at *;generalize(Bm u.data.toList).pl=pl at *;rw[hq2];rintro e w1 ⟨v1,rfl,ho,hb⟩;have HB:=AA hb;obtain⟨A1,n1,m1,A2,n2,m2,A3,n3,m3,A4,n4,m4,A5,n5,m5,A6,n6,m6,rfl⟩:=ho.forms;have hal:=(Below.refl w1.heap.size w1).alloc (Nat.le_refl _) (.cells #[.slice A1 n1 m1,.slice A2 n2 m2,.slice A3 n3 m3,.slice A4 n4 m4,.slice A5 n5 m5,.slice A6 n6 m6] 27)
 have HX:=AA (I0 w1 (.slice A1 n1 m1) (.slice A2 n2 m2) (.slice A3 n3 m3) (.slice A4 n4 m4) (.slice A5 n5 m5) (.slice A6 n6 m6));have HA:=AA (ho.on hal);replace HB:=AA (AC HB.out hal);obtain⟨b1,hb1⟩:∃b,w1.heap.size=b:=⟨_,rfl⟩
 clear ho hb hal;unfold DU;go_upto_region 3 with(fail)
 rw[hb1]at HX;generalize w1.alloc (.cells #[.slice A1 n1 m1,.slice A2 n2 m2,.slice A3 n3 m3,.slice A4 n4 m4,.slice A5 n5 m5,.slice A6 n6 m6] 27)=x1 at *;clear hb1;obtain⟨l,z0,z1,z2,z3,z4,z5, -, -, -, -, -, -⟩:=AI HX.out;rcases hp5 with⟨he,hp,h0,h1⟩|⟨he,hp,hr⟩
 ·subst hp;have p6:(er != 0)=true:=by simpa using he
  clear hcn hq2;go_wp2_with fail
  refine(fm0 HA.out (Ej _ 0)).mono ?_;rintro e w2 ⟨rfl,hb⟩;replace HB:=AA (AC HB.out hb);clear hb;go_wp2_with fail
  refine(HFX.out _ (HT.out.on HB.out)).mono ?_;rintro e w3 ⟨rfl,hb⟩;go_wp2_with fail
  go_ret;exact⟨rfl,AC HB.out hb⟩
 ·subst he hp;obtain⟨hc,htx⟩:=hcn P hq2 hr;obtain⟨hs1,hs2⟩:=Jq hr hc;have HS1:=AA hs1;have HR:=AA hr;have HTX:=AA htx;obtain⟨sh,hsh⟩:∃sh,Ek P=sh:=⟨_,rfl⟩
  have HSH:=AA hsh;have HC1:=AA (QCH HA.out hs1 (HT.out.on HB.out) htx);rw[hsh]at HC1;clear hcn hq2 hc htx hs1 hs2 hr hsh;unfold DU at HC1;go_wp2_with fail
  refine HC1.out.mono ?_;rintro e w2 ⟨rfl,hb⟩;replace HB:=AA (AC HB.out hb);replace HA:=AA (HA.out.on hb);replace HX:=AA (HX.out.on hb);clear hb l z0 z1 z2 z3 z4 z5 HC1;go_wp2_with fail
  refine(MH ⟨sh.toArray⟩ _ (HT.out.on HB.out)).mono ?_;rw[show(ByteArray.mk sh.toArray).data.toList=sh from by simp];rintro e w3 ⟨v2,rfl,ho,hb⟩;replace HB:=AA (AC HB.out hb);replace HA:=AA (HA.out.on hb);replace HX:=AA (HX.out.on hb);obtain⟨C1,r1,s1,C2,r2,s2,C3,r3,s3,C4,r4,s4,C5,r5,s5,C6,r6,s6,rfl⟩:=ho.forms;have hal:=(Below.refl w3.heap.size w3).alloc (Nat.le_refl _) (.cells #[.slice C1 r1 s1,.slice C2 r2 s2,.slice C3 r3 s3,.slice C4 r4 s4,.slice C5 r5 s5,.slice C6 r6 s6] 27);have HX2:=AA (I0 w3 (.slice C1 r1 s1) (.slice C2 r2 s2) (.slice C3 r3 s3) (.slice C4 r4 s4) (.slice C5 r5 s5) (.slice C6 r6 s6))
  have HA2:=AA (ho.on hal);replace HB:=AA (AC HB.out hal);replace HA:=AA (HA.out.on hal);replace HX:=AA (HX.out.on hal);obtain⟨b2,hb2⟩:∃b,w3.heap.size=b:=⟨_,rfl⟩
  have HQ2:Hid (Bm sh=⟨(Bm sh).p,(Bm sh).err,(Bm sh).pl⟩):=AA rfl;generalize(Bm sh).p=Q at *;generalize(Bm sh).err=er2 at *;generalize(Bm sh).pl=pl2 at *;clear ho hb hal;unfold DU;go_upto_region 7 with(fail)
  rw[hb2]at HX2;generalize w3.alloc (.cells #[.slice C1 r1 s1,.slice C2 r2 s2,.slice C3 r3 s3,.slice C4 r4 s4,.slice C5 r5 s5,.slice C6 r6 s6] 27)=x3 at *;clear hb2;obtain⟨l,z0,z1,z2,z3,z4,z5, -, -, -, -, -, -⟩:=AI HX.out;have HC2:=AA (Tz HA.out HS1.out (HT.out.on HB.out));rw[HR.out]at HC2;unfold DU at HC2;go_wp2_with fail
  refine HC2.out.mono ?_;rintro e w4 ⟨rfl,hb⟩;replace HB:=AA (AC HB.out hb);replace HA:=AA (HA.out.on hb);replace HX:=AA (HX.out.on hb);replace HA2:=AA (HA2.out.on hb);replace HX2:=AA (HX2.out.on hb);clear hb l z0 z1 z2 z3 z4 z5 HC2;by_cases hbig:4000<sh.length
  ·have hq:=(QCZ hbig).symm.trans HQ2.out;simp only[ParsedP.mk.injEq]at hq;obtain⟨-,he2, -⟩:=hq;subst he2;have hcmp:(4000:Int)<(sh.length:Int):=by omega
   go_wp2_with fail
   refine(HFX.out _ (HT.out.on HB.out)).mono ?_;rintro e w5 ⟨rfl,hb⟩;go_wp2_with fail
   go_ret;exact⟨rfl,AC HB.out hb⟩
  ·obtain⟨q,k1,k2,k3,k4⟩:=QGl HR.out (by rw[HSH.out];omega);rw[HSH.out]at k1 k4;have hq:=k1.symm.trans HQ2.out;simp only[ParsedP.mk.injEq]at hq;obtain⟨he1,he2,he3⟩:=hq;subst he1 he2 he3;obtain⟨hc2,htx2⟩:=Ob (s:=sh) (by omega) k1 k2;have HC3:=AA (X4 HA.out HA2.out HS1.out);rw[k3]at HC3;have HS2:=AA (Jq k2 hc2).1;have HTX2:=AA htx2;have HK4:=AA k4;have hcmp:¬(4000:Int)<(sh.length:Int):=by omega
   obtain⟨l,z0,z1,z2,z3,z4,z5, -, -, -, -, -, -⟩:=AI HX.out;obtain⟨l2,y0,y1,y2,y3,y4,y5, -, -, -, -, -, -⟩:=AI HX2.out;unfold DU at HC3;clear k1 k2 k3 k4 hc2 htx2;go_wp2_with fail
   refine HC3.out.mono ?_;rintro e w5 ⟨rfl,hb⟩;replace HB:=AA (AC HB.out hb);replace HA2:=AA (HA2.out.on hb);replace HX2:=AA (HX2.out.on hb);clear hb l z0 z1 z2 z3 z4 z5 HC3 HA HX l2 y0 y1 y2 y3 y4 y5;obtain⟨l2,y0,y1,y2,y3,y4,y5, -, -, -, -, -, -⟩:=AI HX2.out;have HC4:=AA (QCH HA2.out HS2.out (HT.out.on HB.out) HTX2.out);rw[HK4.out]at HC4;unfold DU at HC4;go_wp2_with fail
   refine HC4.out.mono ?_;rintro e w6 ⟨rfl,hb⟩;replace HB:=AA (AC HB.out hb);clear hb HC4;go_wp2_with fail
   refine(HFX.out _ (HT.out.on HB.out)).mono ?_;rintro e w7 ⟨rfl,hb⟩;go_wp2_with fail
   go_ret;exact⟨rfl,AC HB.out hb⟩
end Go.Proofs.YthfkpalfopdmhaaGreatDoor
