/- Texts of the walk, packed. -/
import Derived.Test.YthfkpalfopdmhaaGreatDoorW49
import Derived.Test.YthfkpalfopdmhaaGreatDoorW16
import Derived.Test.YthfkpalfopdmhaaGreatDoorW00
namespace Go.Proofs.YthfkpalfopdmhaaGreatDoor
open Go.RowKit
def Ek:List (List Nat):=[[],[0],[1],[2],[3,2],[4,2],[5,2],[6,2],[7,2],[8,2],[9,2],[2,10],[11,2],[12],[13,12],[14,12],[15,12],[16,12],[17,12],[18,12],[19,12],[12,20],[21,12],[22],[23,22],[24,22],[25,22],[26,22],[27,22],[22,28],[29,22],[30],[31,30],[32,30],[33,30],[34,30],[35,30],[36,30],[30,37],[38,30],[39],[40,39],[41,39],[42,39],[43,39],[44,39],[45,39],[39,46],[47,39],[48],[49,48,48],[50,48],[48,51],[52,50],[53],[54,53],[53,55],[56,53],[57],[58,57],[57,59],[60,57],[61],[62,61],[61,63],[64,61],[65],[66,65],[65,67],[68,65],[69],[70,69],[69,71],[72,69],[73],[74,73],[73,75],[76,73],[77],[78,77],[77,79],[80,77],[81],[82,81],[81,83],[84,81],[85],[86,85,85],[85,87],[88,87],[89],[90,89],[91,89],[92,89,89],[93,89],[89,94],[95,93],[96],[96],[98,96,96],[97,99,99,96],[96,100],[101,100],[102],[102],[103,104,102,102],[105,102],[102,106],[107,105],[108],[109,108,108],[108],[111,110,108],[112,112,108],[110,113,113,108],[108,114],[115,114,0,1,2,3,4,5,6,7,8,9,10,11,12,13,14,15,16,17,18,19,20,21,22,23,24,25,26,27,28,29,30,31,32,33,34,35,36,37,38,39,40,41,42,43,44,45,46,47,48,49,50,51,52,53,54,55,56,57,58,59,60,61,62,63,64,65,66,67,68,69,70,71,72,73,74,75,76,77,78,79,80,81,82,83,84,85,86,87,88,89,90,91,92,93,94,95,96,97,98,99,100,101,102,103,104,105,106,107,108,109,110,111,112,113,114,115]]
set_option maxRecDepth 100000 in
set_option maxHeartbeats 16000000 in
theorem QBA (w:World) (ht:Tabs w):Calls Tryz.prog 13 #[] w (X3 w):=by
 have HT:=AA ht;have HB:=AA (Below.refl w.heap.size w);clear ht;go_enter Tryz.func13,Tryz.ntmps13;go_wp2_with fail
 refine(fp1 _ (HT.out.on HB.out)).mono ?_;rintro e u1 ⟨v1,rfl,ho,hb⟩;replace HB:=AA (AC HB.out hb);obtain⟨g1,m1,gi,mi,m2,A2,A3,m3,g4,m4,AR,mR,AB,mB,A5,m5,A6,m6,rfl, -⟩:=TI ho;have HX:=AA (Js u1 (.slice (some ⟨g1,0,none⟩) 1 m1) (.slice A2 0 m2) (.slice A3 1 m3) (.slice (some ⟨g4,0,none⟩) 1 m4) (.slice A5 0 m5) (.slice A6 1 m6));have hal:=(Below.refl u1.heap.size u1).alloc (Nat.le_refl _) (.cells #[.slice (some ⟨g1,0,none⟩) 1 m1,.slice A2 0 m2,.slice A3 1 m3,.slice (some ⟨g4,0,none⟩) 1 m4,.slice A5 0 m5,.slice A6 1 m6] 27);have HA:=AA (ho.on hal);replace HB:=AA (AC HB.out hal)
 obtain⟨b1,hb1⟩:∃b,u1.heap.size=b:=⟨_,rfl⟩
 clear ho hb hal;unfold Hl;go_upto_region 2 with(fail)
 rw[hb1]at HX;generalize u1.alloc (.cells #[.slice (some ⟨g1,0,none⟩) 1 m1,.slice A2 0 m2,.slice A3 1 m3,.slice (some ⟨g4,0,none⟩) 1 m4,.slice A5 0 m5,.slice A6 1 m6] 27)=x1 at *;clear hb1;go_wp2_with fail
 refine(fp2 _ (HT.out.on HB.out)).mono ?_;rintro e u2 ⟨v2,rfl,ho,hb⟩;replace HB:=AA (AC HB.out hb);replace HA:=AA (HA.out.on hb);replace HX:=AA (HX.out.on hb);obtain⟨P21,p21,q21,P22,p22,q22,P23,p23,q23,P24,p24,q24,P25,p25,q25,P26,p26,q26,rfl⟩:=ho.forms;have hal:=(Below.refl u2.heap.size u2).alloc (Nat.le_refl _) (.cells #[.slice P21 p21 q21,.slice P22 p22 q22,.slice P23 p23 q23,.slice P24 p24 q24,.slice P25 p25 q25,.slice P26 p26 q26] 27);replace HA:=AA (HA.out.on hal);replace HX:=AA (HX.out.on hal);replace HB:=AA (AC HB.out hal);clear ho hb hal;unfold Hl;go_upto_region 3 with(fail)
 generalize u2.alloc (.cells #[.slice P21 p21 q21,.slice P22 p22 q22,.slice P23 p23 q23,.slice P24 p24 q24,.slice P25 p25 q25,.slice P26 p26 q26] 27)=x2 at *;go_wp2_with fail
 refine(fp3 _ (HT.out.on HB.out)).mono ?_;rintro e u3 ⟨v3,rfl,ho,hb⟩;replace HB:=AA (AC HB.out hb);replace HA:=AA (HA.out.on hb);replace HX:=AA (HX.out.on hb);obtain⟨P31,p31,q31,P32,p32,q32,P33,p33,q33,P34,p34,q34,P35,p35,q35,P36,p36,q36,rfl⟩:=ho.forms;have hal:=(Below.refl u3.heap.size u3).alloc (Nat.le_refl _) (.cells #[.slice P31 p31 q31,.slice P32 p32 q32,.slice P33 p33 q33,.slice P34 p34 q34,.slice P35 p35 q35,.slice P36 p36 q36] 27);replace HA:=AA (HA.out.on hal);replace HX:=AA (HX.out.on hal);replace HB:=AA (AC HB.out hal);clear ho hb hal;unfold Hl;go_upto_region 4 with(fail)
 generalize u3.alloc (.cells #[.slice P31 p31 q31,.slice P32 p32 q32,.slice P33 p33 q33,.slice P34 p34 q34,.slice P35 p35 q35,.slice P36 p36 q36] 27)=x3 at *;go_wp2_with fail
 refine(fp4 _ (HT.out.on HB.out)).mono ?_;rintro e u4 ⟨v4,rfl,ho,hb⟩;replace HB:=AA (AC HB.out hb);replace HA:=AA (HA.out.on hb);replace HX:=AA (HX.out.on hb);obtain⟨P41,p41,q41,P42,p42,q42,P43,p43,q43,P44,p44,q44,P45,p45,q45,P46,p46,q46,rfl⟩:=ho.forms;have hal:=(Below.refl u4.heap.size u4).alloc (Nat.le_refl _) (.cells #[.slice P41 p41 q41,.slice P42 p42 q42,.slice P43 p43 q43,.slice P44 p44 q44,.slice P45 p45 q45,.slice P46 p46 q46] 27);replace HA:=AA (HA.out.on hal);replace HX:=AA (HX.out.on hal);replace HB:=AA (AC HB.out hal);clear ho hb hal;unfold Hl;go_upto_region 5 with(fail)
 generalize u4.alloc (.cells #[.slice P41 p41 q41,.slice P42 p42 q42,.slice P43 p43 q43,.slice P44 p44 q44,.slice P45 p45 q45,.slice P46 p46 q46] 27)=x4 at *;go_wp2_with fail
 refine(fp5 _ (HT.out.on HB.out)).mono ?_;rintro e u5 ⟨v5,rfl,ho,hb⟩;replace HB:=AA (AC HB.out hb);replace HA:=AA (HA.out.on hb);replace HX:=AA (HX.out.on hb);obtain⟨P51,p51,q51,P52,p52,q52,P53,p53,q53,P54,p54,q54,P55,p55,q55,P56,p56,q56,rfl⟩:=ho.forms;have hal:=(Below.refl u5.heap.size u5).alloc (Nat.le_refl _) (.cells #[.slice P51 p51 q51,.slice P52 p52 q52,.slice P53 p53 q53,.slice P54 p54 q54,.slice P55 p55 q55,.slice P56 p56 q56] 27);replace HA:=AA (HA.out.on hal);replace HX:=AA (HX.out.on hal);replace HB:=AA (AC HB.out hal);clear ho hb hal;unfold Hl;go_upto_region 6 with(fail)
 generalize u5.alloc (.cells #[.slice P51 p51 q51,.slice P52 p52 q52,.slice P53 p53 q53,.slice P54 p54 q54,.slice P55 p55 q55,.slice P56 p56 q56] 27)=x5 at *;obtain⟨_,_,gj,mj,_,_,_,_,_,_,AQ,mQ,AP,mP,_,_,_,_,hvv,c1,ci1,ci3,c40,c41,c42⟩:=TI HA.out;simp only[Pv.mk.injEq,Value.slice.injEq,Option.some.injEq,Addr.mk.injEq,and_true,true_and]at hvv;obtain⟨⟨rfl,rfl⟩,⟨rfl,rfl⟩,⟨rfl,rfl⟩,⟨rfl,rfl⟩,⟨rfl,rfl⟩,rfl,rfl⟩:=hvv;obtain⟨l,z0,z1,z2,z3,z4,z5, -, -, -, -, -, -⟩:=AX HX.out;go_upto_region 8 with(fail)
 simp only[List.append];refine Rh 97 20 (by kernel_rfl) (by kernel_rfl) (by kernel_rfl) ?_;simp only[List.take_succ_cons,List.take_zero];replace HA:=AA (HA.out.on (AD x5));replace HX:=AA (HX.out.on (AD x5));replace HB:=AA (AC HB.out (AD x5));replace c1:x5.drew.cell? ⟨g1,0,none⟩=_:=c1;replace ci1:x5.drew.cell? ⟨gj,1,none⟩=_:=ci1;replace ci3:x5.drew.cell? ⟨gj,3,none⟩=_:=ci3;replace c40:x5.drew.cell? ⟨g4,0,none⟩=_:=c40;replace c41:x5.drew.cell? ⟨g4,1,none⟩=_:=c41;replace c42:x5.drew.cell? ⟨g4,2,none⟩=_:=c42;clear l z0 z1 z2 z3 z4 z5;generalize x5.drew=x6 at *
 obtain⟨l,z0,z1,z2,z3,z4,z5, -, -, -, -, -, -⟩:=AX HX.out;go_wp2_with fail
 refine(fs1 HA.out (HT.out.on HB.out)).mono ?_;rintro e6 y6 ⟨rfl,hb⟩;replace HA:=AA (HA.out.on hb);replace HX:=AA (HX.out.on hb);replace HB:=AA (AC HB.out hb);clear c1 ci1 ci3 c40 c41 c42;clear hb;clear l z0 z1 z2 z3 z4 z5;obtain⟨l,z0,z1,z2,z3,z4,z5, -, -, -, -, -, -⟩:=AX HX.out;go_wp2_with fail
 refine(fr1 HA.out (HT.out.on HB.out)).mono ?_;rintro e7 y7 ⟨rfl,hb⟩;replace HA:=AA (HA.out.on hb);replace HX:=AA (HX.out.on hb);replace HB:=AA (AC HB.out hb);clear hb;clear l z0 z1 z2 z3 z4 z5;obtain⟨l,z0,z1,z2,z3,z4,z5, -, -, -, -, -, -⟩:=AX HX.out;have hlk:=AA (QDc y7);have hal:=(Below.refl y7.heap.size y7).alloc (Nat.le_refl _) (.cells #[.string ⟨#[]⟩,.int .i64 0,.int .i64 0] 48);replace HA:=AA (HA.out.on hal);replace HX:=AA (HX.out.on hal);replace HB:=AA (AC HB.out hal);clear hal;go_wp2_with fail
 refine(fr2 hlk.out (HT.out.on HB.out)).mono ?_;rintro e8 y8 ⟨rfl,hb⟩;replace HA:=AA (HA.out.on hb);replace HX:=AA (HX.out.on hb);replace HB:=AA (AC HB.out hb);clear hlk;clear hb;clear l z0 z1 z2 z3 z4 z5;obtain⟨l,z0,z1,z2,z3,z4,z5, -, -, -, -, -, -⟩:=AX HX.out;go_wp2_with fail
 change wpAny _ _ _ _ _ _ _ _;refine N5 (E:=Ek) (i:=97) (j:=98) (fuel:=19) (by kernel_rfl) (by kernel_rfl) (by kernel_rfl) (by decide) (by decide) ?_ ?_
 focus
  simp only[List.drop_succ_cons,List.drop_zero,List.take_succ_cons,List.take_zero];go_wp2_with fail
  change wpAny _ _ _ _ _ _ _ _;refine Fp (E:=Ek) (by kernel_rfl) (by kernel_rfl) 5 98 14 _ _ _ (by kernel_rfl) ?_;simp only[List.drop_succ_cons,List.drop_zero,List.take_succ_cons,List.take_zero];go_wp2_with fail
  refine(PE HA.out RO).mono ?_;rintro e9 y9 ⟨ua,rfl,ho,hb⟩;replace HA:=AA (HA.out.on hb);replace HX:=AA (HX.out.on hb);replace HB:=AA (AC HB.out hb);obtain⟨uaA1,uan1,uam1,uaA2,uan2,uam2,uaA3,uan3,uam3,uaA4,uan4,uam4,uaA5,uan5,uam5,uaA6,uan6,uam6,rfl⟩:=ho.forms;have Hua:=AA ho;unfold Hl;clear ho;clear hb;clear l z0 z1 z2 z3 z4 z5;obtain⟨l,z0,z1,z2,z3,z4,z5, -, -, -, -, -, -⟩:=AX HX.out;go_wp2_with fail
  refine(fm1 HA.out Hua.out).mono ?_;rintro e10 y10 ⟨rfl,hb⟩;replace HA:=AA (HA.out.on hb);replace HX:=AA (HX.out.on hb);replace Hua:=AA (Hua.out.on hb);replace HB:=AA (AC HB.out hb);clear hb;clear l z0 z1 z2 z3 z4 z5;obtain⟨l,z0,z1,z2,z3,z4,z5, -, -, -, -, -, -⟩:=AX HX.out;go_wp2_with fail
  change wpAny _ _ _ _ _ _ _ _
 rotate_left
 focus
  simp only[List.drop_succ_cons,List.drop_zero,List.take_succ_cons,List.take_zero];go_wp2_with fail
  change wpAny _ _ _ _ _ _ _ _
 refine N5 (E:=Ek) (i:=97) (j:=99) (fuel:=18) (by kernel_rfl) (by kernel_rfl) (by kernel_rfl) (by decide) (by decide) ?_ ?_
 focus
  simp only[List.drop_succ_cons,List.drop_zero,List.take_succ_cons,List.take_zero];go_wp2_with fail
  change wpAny _ _ _ _ _ _ _ _;refine Fp (E:=Ek) (by kernel_rfl) (by kernel_rfl) 4 99 14 _ _ _ (by kernel_rfl) ?_;simp only[List.drop_succ_cons,List.drop_zero,List.take_succ_cons,List.take_zero];go_wp2_with fail
  refine(PE HA.out RO).mono ?_;rintro e9 y9 ⟨ua,rfl,ho,hb⟩;replace HA:=AA (HA.out.on hb);replace HX:=AA (HX.out.on hb);replace HB:=AA (AC HB.out hb);obtain⟨uaA1,uan1,uam1,uaA2,uan2,uam2,uaA3,uan3,uam3,uaA4,uan4,uam4,uaA5,uan5,uam5,uaA6,uan6,uam6,rfl⟩:=ho.forms;have Hua:=AA ho;unfold Hl;clear ho;clear hb;clear l z0 z1 z2 z3 z4 z5;obtain⟨l,z0,z1,z2,z3,z4,z5, -, -, -, -, -, -⟩:=AX HX.out;go_wp2_with fail
  refine(fm1 HA.out Hua.out).mono ?_;rintro e10 y10 ⟨rfl,hb⟩;replace HA:=AA (HA.out.on hb);replace HX:=AA (HX.out.on hb);replace Hua:=AA (Hua.out.on hb);replace HB:=AA (AC HB.out hb);clear hb;clear l z0 z1 z2 z3 z4 z5;obtain⟨l,z0,z1,z2,z3,z4,z5, -, -, -, -, -, -⟩:=AX HX.out;go_wp2_with fail
  change wpAny _ _ _ _ _ _ _ _
 rotate_left
 focus
  simp only[List.drop_succ_cons,List.drop_zero,List.take_succ_cons,List.take_zero];go_wp2_with fail
  refine(PE HA.out RO).mono ?_;rintro e9 y9 ⟨ua,rfl,ho,hb⟩;replace HA:=AA (HA.out.on hb);replace HX:=AA (HX.out.on hb);replace HB:=AA (AC HB.out hb);obtain⟨uaA1,uan1,uam1,uaA2,uan2,uam2,uaA3,uan3,uam3,uaA4,uan4,uam4,uaA5,uan5,uam5,uaA6,uan6,uam6,rfl⟩:=ho.forms;have Hua:=AA ho;unfold Hl;clear ho;clear hb;clear l z0 z1 z2 z3 z4 z5;obtain⟨l,z0,z1,z2,z3,z4,z5, -, -, -, -, -, -⟩:=AX HX.out;go_wp2_with fail
  change wpAny _ _ _ _ _ _ _ _;refine Fp (E:=Ek) (by kernel_rfl) (by kernel_rfl) 1 97 17 _ _ _ (by kernel_rfl) ?_;simp only[List.drop_succ_cons,List.drop_zero,List.take_succ_cons,List.take_zero];go_wp2_with fail
  change wpAny _ _ _ _ _ _ _ _;refine Fp (E:=Ek) (by kernel_rfl) (by kernel_rfl) 3 100 14 _ _ _ (by kernel_rfl) ?_;simp only[List.drop_succ_cons,List.drop_zero,List.take_succ_cons,List.take_zero];go_wp2_with fail
  refine(fm1 HA.out Hua.out).mono ?_;rintro e10 y10 ⟨rfl,hb⟩;replace HA:=AA (HA.out.on hb);replace HX:=AA (HX.out.on hb);replace Hua:=AA (Hua.out.on hb);replace HB:=AA (AC HB.out hb);clear hb;clear l z0 z1 z2 z3 z4 z5;obtain⟨l,z0,z1,z2,z3,z4,z5, -, -, -, -, -, -⟩:=AX HX.out;go_wp2_with fail
  change wpAny _ _ _ _ _ _ _ _
 all_goals
  refine N5 (E:=Ek) (i:=103) (j:=104) (fuel:=13) (by kernel_rfl) (by kernel_rfl) (by kernel_rfl) (by decide) (by decide) ?_ ?_
  focus
   simp only[List.drop_succ_cons,List.drop_zero,List.take_succ_cons,List.take_zero];go_wp2_with fail
   change wpAny _ _ _ _ _ _ _ _;refine Fp (E:=Ek) (by kernel_rfl) (by kernel_rfl) 1 104 12 _ _ _ (by kernel_rfl) ?_;simp only[List.drop_succ_cons,List.drop_zero,List.take_succ_cons,List.take_zero];go_wp2_with fail
   change wpAny _ _ _ _ _ _ _ _;refine Fp (E:=Ek) (by kernel_rfl) (by kernel_rfl) 4 105 8 _ _ _ (by kernel_rfl) ?_;simp only[List.drop_succ_cons,List.drop_zero,List.take_succ_cons,List.take_zero];go_wp2_with fail
   refine(fm2 HA.out (Ji _ 0)).mono ?_;rintro e11 y11 ⟨rfl,hb⟩;replace HA:=AA (HA.out.on hb);replace HX:=AA (HX.out.on hb);replace HB:=AA (AC HB.out hb);clear hb;clear l z0 z1 z2 z3 z4 z5;obtain⟨l,z0,z1,z2,z3,z4,z5, -, -, -, -, -, -⟩:=AX HX.out;go_wp2_with fail
   change wpAny _ _ _ _ _ _ _ _
  rotate_left
  focus
   simp only[List.drop_succ_cons,List.drop_zero,List.take_succ_cons,List.take_zero];go_wp2_with fail
   change wpAny _ _ _ _ _ _ _ _;refine Fp (E:=Ek) (by kernel_rfl) (by kernel_rfl) 1 103 12 _ _ _ (by kernel_rfl) ?_;simp only[List.drop_succ_cons,List.drop_zero,List.take_succ_cons,List.take_zero];go_wp2_with fail
   change wpAny _ _ _ _ _ _ _ _;refine Fp (E:=Ek) (by kernel_rfl) (by kernel_rfl) 4 105 8 _ _ _ (by kernel_rfl) ?_;simp only[List.drop_succ_cons,List.drop_zero,List.take_succ_cons,List.take_zero];go_wp2_with fail
   refine(fm2 HA.out (Ji _ 0)).mono ?_;rintro e11 y11 ⟨rfl,hb⟩;replace HA:=AA (HA.out.on hb);replace HX:=AA (HX.out.on hb);replace HB:=AA (AC HB.out hb);clear hb;clear l z0 z1 z2 z3 z4 z5;obtain⟨l,z0,z1,z2,z3,z4,z5, -, -, -, -, -, -⟩:=AX HX.out;go_wp2_with fail
   change wpAny _ _ _ _ _ _ _ _
 all_goals
  refine N5 (E:=Ek) (i:=109) (j:=111) (fuel:=7) (by kernel_rfl) (by kernel_rfl) (by kernel_rfl) (by decide) (by decide) ?_ ?_
  focus
   simp only[List.drop_succ_cons,List.drop_zero,List.take_succ_cons,List.take_zero];go_wp2_with fail
   change wpAny _ _ _ _ _ _ _ _
  refine N5 (E:=Ek) (i:=110) (j:=111) (fuel:=6) (by kernel_rfl) (by kernel_rfl) (by kernel_rfl) (by decide) (by decide) ?_ ?_
  focus
   simp only[List.drop_succ_cons,List.drop_zero,List.take_succ_cons,List.take_zero];go_wp2_with fail
   refine(PE HA.out RO).mono ?_;rintro e12 y12 ⟨ub,rfl,ho,hb⟩;replace HA:=AA (HA.out.on hb);replace HX:=AA (HX.out.on hb);replace HB:=AA (AC HB.out hb);obtain⟨ubA1,ubn1,ubm1,ubA2,ubn2,ubm2,ubA3,ubn3,ubm3,ubA4,ubn4,ubm4,ubA5,ubn5,ubm5,ubA6,ubn6,ubm6,rfl⟩:=ho.forms;have Hub:=AA ho;unfold Hl;clear ho;clear hb;clear l z0 z1 z2 z3 z4 z5;obtain⟨l,z0,z1,z2,z3,z4,z5, -, -, -, -, -, -⟩:=AX HX.out;go_wp2_with fail
   change wpAny _ _ _ _ _ _ _ _;refine Fp (E:=Ek) (by kernel_rfl) (by kernel_rfl) 1 111 5 _ _ _ (by kernel_rfl) ?_;simp only[List.drop_succ_cons,List.drop_zero,List.take_succ_cons,List.take_zero];go_wp2_with fail
   change wpAny _ _ _ _ _ _ _ _
  rotate_left
  focus
   simp only[List.drop_succ_cons,List.drop_zero,List.take_succ_cons,List.take_zero];go_wp2_with fail
   change wpAny _ _ _ _ _ _ _ _;refine Fp (E:=Ek) (by kernel_rfl) (by kernel_rfl) 1 110 5 _ _ _ (by kernel_rfl) ?_;simp only[List.drop_succ_cons,List.drop_zero,List.take_succ_cons,List.take_zero];go_wp2_with fail
   refine(PE HA.out RO).mono ?_;rintro e12 y12 ⟨ub,rfl,ho,hb⟩;replace HA:=AA (HA.out.on hb);replace HX:=AA (HX.out.on hb);replace HB:=AA (AC HB.out hb);obtain⟨ubA1,ubn1,ubm1,ubA2,ubn2,ubm2,ubA3,ubn3,ubm3,ubA4,ubn4,ubm4,ubA5,ubn5,ubm5,ubA6,ubn6,ubm6,rfl⟩:=ho.forms;have Hub:=AA ho;unfold Hl;clear ho;clear hb;clear l z0 z1 z2 z3 z4 z5;obtain⟨l,z0,z1,z2,z3,z4,z5, -, -, -, -, -, -⟩:=AX HX.out;go_wp2_with fail
   change wpAny _ _ _ _ _ _ _ _
  rotate_left
  focus
   simp only[List.drop_succ_cons,List.drop_zero,List.take_succ_cons,List.take_zero];go_wp2_with fail
   change wpAny _ _ _ _ _ _ _ _;refine Fp (E:=Ek) (by kernel_rfl) (by kernel_rfl) 2 109 5 _ _ _ (by kernel_rfl) ?_;simp only[List.drop_succ_cons,List.drop_zero,List.take_succ_cons,List.take_zero];go_wp2_with fail
   refine(PE HA.out RO).mono ?_;rintro e12 y12 ⟨ub,rfl,ho,hb⟩;replace HA:=AA (HA.out.on hb);replace HX:=AA (HX.out.on hb);replace HB:=AA (AC HB.out hb);obtain⟨ubA1,ubn1,ubm1,ubA2,ubn2,ubm2,ubA3,ubn3,ubm3,ubA4,ubn4,ubm4,ubA5,ubn5,ubm5,ubA6,ubn6,ubm6,rfl⟩:=ho.forms;have Hub:=AA ho;unfold Hl;clear ho;clear hb;clear l z0 z1 z2 z3 z4 z5;obtain⟨l,z0,z1,z2,z3,z4,z5, -, -, -, -, -, -⟩:=AX HX.out;go_wp2_with fail
   change wpAny _ _ _ _ _ _ _ _
 all_goals
  refine Fp (E:=Ek) (by kernel_rfl) (by kernel_rfl) 5 112 0 _ _ _ (by kernel_rfl) ?_;simp only[List.drop_succ_cons,List.drop_zero,List.take_succ_cons,List.take_zero];go_wp2_with fail
  refine(PE HA.out RO).mono ?_;rintro e13 y13 ⟨uc,rfl,ho,hb⟩;replace HA:=AA (HA.out.on hb);replace HX:=AA (HX.out.on hb);replace Hub:=AA (Hub.out.on hb);replace HB:=AA (AC HB.out hb);obtain⟨ucA1,ucn1,ucm1,ucA2,ucn2,ucm2,ucA3,ucn3,ucm3,ucA4,ucn4,ucm4,ucA5,ucn5,ucm5,ucA6,ucn6,ucm6,rfl⟩:=ho.forms;have Huc:=AA ho;unfold Hl;clear ho;clear hb;clear l z0 z1 z2 z3 z4 z5;obtain⟨l,z0,z1,z2,z3,z4,z5, -, -, -, -, -, -⟩:=AX HX.out;go_wp2_with fail
  refine(PE Huc.out QGl).mono ?_;rintro e14 y14 ⟨ud,rfl,ho,hb⟩;replace HA:=AA (HA.out.on hb);replace HX:=AA (HX.out.on hb);replace Hub:=AA (Hub.out.on hb);replace Huc:=AA (Huc.out.on hb);replace HB:=AA (AC HB.out hb);obtain⟨udA1,udn1,udm1,udA2,udn2,udm2,udA3,udn3,udm3,udA4,udn4,udm4,udA5,udn5,udm5,udA6,udn6,udm6,rfl⟩:=ho.forms;have Hud:=AA ho;unfold Hl;clear ho;clear hb;clear l z0 z1 z2 z3 z4 z5;obtain⟨l,z0,z1,z2,z3,z4,z5, -, -, -, -, -, -⟩:=AX HX.out;go_wp2_with fail
  refine(fd1 Hub.out Hud.out).mono ?_;rintro e15 y15 ⟨rfl,hb⟩;replace HA:=AA (HA.out.on hb);replace HX:=AA (HX.out.on hb);replace Hub:=AA (Hub.out.on hb);replace Huc:=AA (Huc.out.on hb);replace Hud:=AA (Hud.out.on hb);replace HB:=AA (AC HB.out hb);clear hb;clear l z0 z1 z2 z3 z4 z5;obtain⟨l,z0,z1,z2,z3,z4,z5, -, -, -, -, -, -⟩:=AX HX.out;go_wp2_with fail
  change wpAny _ _ _ _ _ _ _ _;refine QFQ (E:=Ek) (by kernel_rfl) (by kernel_rfl) (by kernel_rfl) ?_;go_wp2_with fail
  go_ret;exact⟨rfl,HB.out⟩
end Go.Proofs.YthfkpalfopdmhaaGreatDoor
