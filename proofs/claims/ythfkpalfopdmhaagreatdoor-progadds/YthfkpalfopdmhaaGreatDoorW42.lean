/- Texts of the walk, packed. -/
import Derived.Test.YthfkpalfopdmhaaGreatDoorW40
import Derived.Test.YthfkpalfopdmhaaGreatDoorW13
import Derived.Test.YthfkpalfopdmhaaGreatDoorW29
import Derived.Test.YthfkpalfopdmhaaGreatDoorW07
import Derived.WalkMore
import Derived.Deep.Cut
import Derived.Test.YthfkpalfopdmhaaGreatDoorW00
namespace Go.Proofs.YthfkpalfopdmhaaGreatDoor
open Go.RowKit
set_option maxRecDepth 100000 in
set_option maxHeartbeats 4000000 in
theorem QCk {x:Tv} {w:World} {B:Nat} (hR:CS w B x.vR x.t.regs) (hB:Ec w B x.vB x.t.body) (hs:DX x.t) (ht:Tabs w):
  Calls Tryz.prog 48 #[.agg #[.string ⟨x.t.name.toArray⟩,x.vR,x.vB,.int .i64 x.t.pl]] w (AK (Bv true x.t) w):=by
 obtain⟨AR,cR,hvR, -, -, -⟩:=hR.reads;obtain⟨AB,cB,hvB⟩:=hB.slice;obtain⟨t,vR,vB⟩:=x;simp only at hR hB hs hvR hvB⊢;subst hvR hvB;have HBX:=AA (LO w (.string ⟨t.name.toArray⟩) (.slice AR t.regs.length cR) (.slice AB t.body.length cB) (.int .i64 t.pl) 41);have HB0:Hid (Below w.heap.size w (w.alloc (.cells #[.string ⟨t.name.toArray⟩,.slice AR t.regs.length cR,.slice AB t.body.length cB,.int .i64 t.pl] 41))):=AA ((Below.refl _ _).alloc (Nat.le_refl _) _);have HR:=AA hR;have HS:=AA hB;have HSM:=AA hs;have HT:=AA ht;have HE:=AA (QCj true t);obtain⟨q,hq⟩:∃q,PD t=q:=⟨_,rfl⟩
 have HQ:=AA hq;obtain⟨q0,hq0⟩:∃q,nameB t.name=q:=⟨_,rfl⟩
 have HQ0:=AA hq0;have HN:Hid (Calls Tryz.prog 103 #[.string ⟨t.name.toArray⟩] (w.alloc (.cells #[.string ⟨t.name.toArray⟩,.slice AR t.regs.length cR,.slice AB t.body.length cB,.int .i64 t.pl] 41)) (AK q0 (w.alloc (.cells #[.string ⟨t.name.toArray⟩,.slice AR t.regs.length cR,.slice AB t.body.length cB,.int .i64 t.pl] 41)))):=AA (by rw[<-hq0];exact US _ _ hs.1);clear hq0;clear hR hB hs ht hq;go_enter Tryz.func48,Tryz.ntmps48;go_wp2_with fail
 obtain⟨b,hb⟩:∃b,w.heap.size=b:=⟨_,rfl⟩
 rw[hb]at HBX⊢;generalize w.alloc (.cells #[.string ⟨t.name.toArray⟩,.slice AR t.regs.length cR,.slice AB t.body.length cB,.int .i64 t.pl] 41)=W at *;refine HN.out.mono ?_;rintro e w1 ⟨rfl,hb1⟩;have HB1:=AA (HB0.out.trans (hb1.mono HB0.out.size));obtain⟨l1,z0,z1,z2,z3⟩:=HBX.out.on hb1;clear hb1 hb;cases q0 with
 |false=>
  go_wp2_with fail
  go_ret;exact⟨AH (by rw[HE.out,HQ0.out];simp),HB1.out⟩
 |true=>
  have HCB:Hid (Calls Tryz.prog 107 #[.agg #[.string ⟨t.name.toArray⟩,.slice AR t.regs.length cR,.slice AB t.body.length cB,.int .i64 t.pl]] w1 (AK q w1)):=AA (by rw[<-HQ.out];exact Yc (x:=⟨t,.slice AR t.regs.length cR,.slice AB t.body.length cB⟩) (HR.out.on HB1.out) (HS.out.keepT (AG.of HB1.out) Av.none) HSM.out (HT.out.on HB1.out));go_wp2_with fail
  refine HCB.out.mono ?_;rintro e w2 ⟨rfl,hb2⟩;have HB2:=AA (AC HB1.out hb2);clear hb2;go_wp2_with fail
  go_ret;exact⟨AH (by rw[HE.out,HQ0.out,HQ.out];simp),HB2.out⟩
set_option maxRecDepth 100000 in
set_option maxHeartbeats 4000000 in
theorem QE0 {x:Tv} {w:World} {B:Nat} (hR:CS w B x.vR x.t.regs) (hB:Ec w B x.vB x.t.body) (hs:DX x.t) (ht:Tabs w):
  Calls Tryz.prog 49 #[.agg #[.string ⟨x.t.name.toArray⟩,x.vR,x.vB,.int .i64 x.t.pl]] w (AK (Bv false x.t) w):=by
 obtain⟨AR,cR,hvR, -, -, -⟩:=hR.reads;obtain⟨AB,cB,hvB⟩:=hB.slice;obtain⟨t,vR,vB⟩:=x;obtain⟨nm,rg,bd,pl⟩:=t;simp only at hR hB hs hvR hvB⊢;subst hvR hvB;have HBX:=AA (LO w (.string ⟨nm.toArray⟩) (.slice AR rg.length cR) (.slice AB bd.length cB) (.int .i64 pl) 41);have HB0:Hid (Below w.heap.size w (w.alloc (.cells #[.string ⟨nm.toArray⟩,.slice AR rg.length cR,.slice AB bd.length cB,.int .i64 pl] 41))):=AA ((Below.refl _ _).alloc (Nat.le_refl _) _);have HR:=AA hR;have HS:=AA hB;have HSM:=AA hs;have HT:=AA ht;have HE:=AA (QCj false ⟨nm,rg,bd,pl⟩);obtain⟨q,hq⟩:∃q,PD ⟨nm,rg,bd,pl⟩=q:=⟨_,rfl⟩
 have HQ:=AA hq;clear hR hB hs ht hq;cases nm with
 |cons a nm=>
  go_enter Tryz.func49,Tryz.ntmps49;go_wp2_with fail
  go_ret;exact⟨AH (by rw[HE.out];simp),HB0.out⟩
 |nil=>
  go_enter Tryz.func49,Tryz.ntmps49;go_wp2_with fail
  obtain⟨b,hb⟩:∃b,w.heap.size=b:=⟨_,rfl⟩
  rw[hb]at HBX⊢;generalize w.alloc (.cells #[.string ⟨#[]⟩,.slice AR rg.length cR,.slice AB bd.length cB,.int .i64 pl] 41)=W at *;have HE2:Hid (Bv false ⟨[],rg,bd,pl⟩=q):=AA (by rw[HE.out,HQ.out];simp);obtain⟨l1,z0,z1,z2,z3⟩:=HBX.out;have HCB:Hid (Calls Tryz.prog 107 #[.agg #[.string ⟨#[]⟩,.slice AR rg.length cR,.slice AB bd.length cB,.int .i64 pl]] W (AK q W)):=AA (by rw[<-HQ.out];exact Yc (x:=⟨⟨[],rg,bd,pl⟩,.slice AR rg.length cR,.slice AB bd.length cB⟩) (HR.out.on HB0.out) (HS.out.keepT (AG.of HB0.out) Av.none) HSM.out (HT.out.on HB0.out));go_wp2_with fail
  refine HCB.out.mono ?_;rintro e w2 ⟨rfl,hb2⟩;have HB2:=AA (AC HB0.out hb2);clear hb2;go_wp2_with fail
  go_ret;exact⟨AH (by rw[HE2.out]),HB2.out⟩
set_option maxRecDepth 100000 in
set_option maxHeartbeats 4000000 in
theorem QE1 {x:Cv} {w:World} {B:Nat} (hE:B0 B w x.vE x.c.e) (hs:Jq x.c):Calls Tryz.prog 51 #[.agg #[x.vE,.int .i64 x.c.pl]] w (AK (Eo x.c) w):=by
 obtain⟨AE,cE,hvE,_⟩:=hE.rd;obtain⟨⟨e,pl⟩,vE⟩:=x;simp only at hE hs hvE⊢;subst hvE;have HB0:Hid (Below w.heap.size w (w.alloc (.cells #[.slice AE e.length cE,.int .i64 pl] 50))):=AA ((Below.refl _ _).alloc (Nat.le_refl _) _);have hW:w.heap.size<(w.alloc (.cells #[.slice AE e.length cE,.int .i64 pl] 50)).heap.size:=by simp
 have HC:=AA (JU (.slice AE e.length cE) e (w.alloc (.cells #[.slice AE e.length cE,.int .i64 pl] 50)) (hE.rd.on HB0.out) hs.2 hs.1);obtain⟨q,hq⟩:∃q,Bm e=q:=⟨_,rfl⟩
 have HQ:=AA hq;rw[hq]at HC;clear hE hs hq;go_enter Tryz.func51,Tryz.ntmps51;go_wp2_with fail
 refine HC.out.mono ?_;rintro e w1 ⟨rfl,hb1⟩;have z1:w1.cell? ⟨w.heap.size,1,none⟩=some (.int .i64 pl):=by rw[hb1.cell (p:=⟨w.heap.size,1,none⟩) hW];simp
 have hl1:w.heap.size<w1.heap.size:=Nat.lt_of_lt_of_le hW hb1.size;have HB1:=AA (HB0.out.trans (hb1.mono HB0.out.size));clear hb1 hW;cases q with
 |false=>
  go_wp2_with fail
  go_ret;exact⟨AH (by unfold Eo;rw[HQ.out,Bool.and_false]),HB1.out⟩
 |true=>
  go_wp2_with fail
  refine(UT pl w1).mono ?_;rintro e w2 ⟨rfl,hb2⟩;have HB2:=AA (AC HB1.out hb2);clear hb2;go_wp2_with fail
  go_ret;exact⟨AH (by unfold Eo;rw[HQ.out,Bool.and_true]),HB2.out⟩
def LP (c:Cut) (w:World) (e:Ending) (w':World):Prop:=
 e=.returned (.tuple #[.agg #[.int .i64 c.kind,.string ⟨c.text.toArray⟩,.int .i64 c.n,.int .i64 0],.int .i64 c.err])/\Below w.heap.size w w'
theorem Cm {c c':Cut} {w w':World} {e:Ending} (he:e=.returned (.tuple #[.agg #[.int .i64 c'.kind,.string ⟨c'.text.toArray⟩,.int .i64 c'.n,.int .i64 0],.int .i64 c'.err])) (h:c=c') (hb:Below w.heap.size w w'):LP c w e w':=by
 subst h;exact⟨he,hb⟩
set_option maxHeartbeats 1000000 in
theorem QC1 (s:ByteArray) (w:World) (hs:s.size<=100000):Calls Tryz.prog 130 #[.string s] w (LP (DY s.data.toList) w):=by
 by_cases hl:16<(s.data.toList.takeWhile wrdB).length
 ·have HC:Hid (DY s.data.toList=.no 2):=AA (by unfold DY;rw[if_pos hl]);generalize ht:s.data.toList.takeWhile wrdB=t at *;have HT:=AA ht;clear ht;go_enter Tryz.func130,Tryz.ntmps130;go_wp2_with fail
  refine(Jx s _ hs).mono ?_;rw[HT.out];rintro e w' ⟨rfl,rfl⟩;go_wp2_with fail
  exact bodyPost_ret (v:=.tuple #[.agg #[.int .i64 0,.string ⟨#[]⟩,.int .i64 0,.int .i64 0],.int .i64 2]) (by simp[results,Tryz.results130,go_sem]) rfl (Cm (c':=.no 2) rfl HC.out ((Below.refl _ _).alloc (Nat.le_refl _) _))
 ·have HC:Hid (DY s.data.toList=⟨0,1,s.data.toList.takeWhile wrdB,0⟩):=AA (by unfold DY;rw[if_neg hl]);generalize ht:s.data.toList.takeWhile wrdB=t at *;have HT:=AA ht;clear ht;go_enter Tryz.func130,Tryz.ntmps130;go_wp2_with fail
  refine(Jx s _ hs).mono ?_;rw[HT.out];rintro e w' ⟨rfl,rfl⟩;go_wp2_with fail
  exact bodyPost_ret (v:=.tuple #[.agg #[.int .i64 1,.string ⟨t.toArray⟩,.int .i64 0,.int .i64 0],.int .i64 0]) (by simp[results,Tryz.results130,go_sem]) rfl (Cm (c':=⟨0,1,t,0⟩) rfl HC.out ((Below.refl _ _).alloc (Nat.le_refl _) _))
theorem QC2 (t:List UInt8):CY (Lib.trimLeftB t 48)=CY t:=by
 unfold Lib.trimLeftB
 induction t with
 |nil=>rfl
 |cons c t ih=>
  by_cases h:c=48
  ·subst h;rw[List.dropWhile_cons,if_pos (by decide),ih];rfl
  ·rw[List.dropWhile_cons,if_neg (by simpa using h)]
theorem QAt (t:List UInt8):(Lib.trimLeftB t 48).head?≠some 48:=by
 unfold Lib.trimLeftB
 induction t with
 |nil=>simp
 |cons c t ih=>
  by_cases h:c=48
  ·subst h;rw[List.dropWhile_cons,if_pos (by decide)];exact ih
  ·rw[List.dropWhile_cons,if_neg (by simpa using h)];simpa using h
theorem QC3 (t:List UInt8) (h:t.all digB=true):(Lib.trimLeftB t 48).all digB=true:=by
 unfold Lib.trimLeftB;rw[List.all_eq_true]at *;exact fun x hx=>h x ((List.dropWhile_sublist _).subset hx)
theorem RI (p:UInt8->Bool) (l:List UInt8):(l.takeWhile p).all p=true:=by
 induction l with
 |nil=>rfl
 |cons c l ih=>
  rw[List.takeWhile_cons];cases h:p c with
  |true=>simp[h]
  |false=>simp
theorem Uc (t:List UInt8) (h0:t≠[]) (ha:t.all digB=true) (hh:t.head?≠some 48):MZ t=if CY t<Kr then((CY t:Int),0)else(0,4):=by
 have h1:t≠[48]:=fun e=>hh (by rw[e];rfl)
 have h45:(t.head?==some 45)=false:=by
  cases t with
  |nil=>exact absurd rfl h0
  |cons c t=>
   have hc:digB c=true:=by simp at ha;exact ha.1
   rw[beq_eq_false_iff_ne];intro e;simp at e;subst e;exact absurd hc (by decide)
 have hp:FN t=true:=by
  unfold FN;rw[ha];simp[h0,hh]
 unfold MZ;rw[if_neg h1];simp only[h45,Bool.false_eq_true,if_false];rw[if_neg (by rw[hp];simp)];by_cases hv:CY t<Kr
 ·rw[if_neg (by simp;omega),if_pos hv]
 ·rw[if_pos (by simp;omega),if_neg hv]
set_option maxHeartbeats 2000000 in
theorem Xt (s:ByteArray) (w:World) (hs:s.size<=100000):Calls Tryz.prog 132 #[.string s] w (LP (FY s.data.toList) w):=by
 have hall:=RI digB s.data.toList;have hC:FY s.data.toList=if 4294967296<CY (s.data.toList.takeWhile digB)then .no 4 else⟨0,2,s.data.toList.takeWhile digB,CY (s.data.toList.takeWhile digB)⟩:=rfl
 generalize ht:s.data.toList.takeWhile digB=t at *;have HT:=AA ht;have HC:=AA hC;have HA:=AA (QC3 t hall);have HH:=AA (QAt t);have HV:=AA (QC2 t);clear ht hC hall;generalize hu:Lib.trimLeftB t 48=u at *;have HU:=AA hu;clear hu;by_cases h0:u=[]
 ·subst h0;have HR:Hid (FY s.data.toList=⟨0,2,t,0⟩):=AA (by rw[HC.out,<-HV.out];rfl);go_enter Tryz.func132,Tryz.ntmps132;go_wp2_with fail
  refine(S8 s _ hs).mono ?_;rw[HT.out];rintro e w' ⟨rfl,rfl⟩;go_wp2_with fail
  refine(Tryz.strings_TrimLeft_one _ 48 (by decide) _).mono ?_;rintro e w' ⟨rfl,rfl⟩;rw[show(ByteArray.mk t.toArray).data.toList=t from by simp,HU.out];go_wp2_with fail
  exact bodyPost_ret (v:=.tuple #[.agg #[.int .i64 2,.string ⟨t.toArray⟩,.int .i64 0,.int .i64 0],.int .i64 0]) (by simp[results,Tryz.results132,go_sem]) rfl (Cm (c':=⟨0,2,t,0⟩) rfl HR.out ((Below.refl _ _).alloc (Nat.le_refl _) _))
 ·have HP:=AA (Uc u h0 HA.out HH.out);have hne:(u==[])=false:=by simpa using h0
  have hne2:u.isEmpty=false:=by simpa using h0
  clear h0;rw[HV.out]at HP;go_enter Tryz.func132,Tryz.ntmps132;go_wp2_with fail
  refine(S8 s _ hs).mono ?_;rw[HT.out];rintro e w' ⟨rfl,rfl⟩;go_wp2_with fail
  refine(Tryz.strings_TrimLeft_one _ 48 (by decide) _).mono ?_;rintro e w' ⟨rfl,rfl⟩;rw[show(ByteArray.mk t.toArray).data.toList=t from by simp,HU.out];go_wp2_with fail
  refine(Xr _ _).mono ?_;rw[show(ByteArray.mk u.toArray).data.toList=u from by simp,HP.out];by_cases hv:CY t<Kr
  ·rw[if_pos hv];rintro e w1 ⟨rfl,hb⟩;obtain⟨hc,hf⟩:=Du hb;by_cases hg:4294967296<CY t
   ·have hg2:(4294967296:Int)<(CY t:Int):=by omega
    have HR:Hid (FY s.data.toList=.no 4):=AA (by rw[HC.out,if_pos hg]);go_wp2_with fail
    exact bodyPost_ret (v:=.tuple #[.agg #[.int .i64 0,.string ⟨#[]⟩,.int .i64 0,.int .i64 0],.int .i64 4]) (by simp[results,Tryz.results132,go_sem,hc]) rfl (Cm (c':=.no 4) rfl HR.out (Fq hb _ _ _ _))
   ·have hg2:¬(4294967296:Int)<(CY t:Int):=by omega
    have HR:Hid (FY s.data.toList=⟨0,2,t,CY t⟩):=AA (by rw[HC.out,if_neg hg]);go_wp2_with fail
    exact bodyPost_ret (v:=.tuple #[.agg #[.int .i64 2,.string ⟨t.toArray⟩,.int .i64 (CY t),.int .i64 0],.int .i64 0]) (by simp[results,Tryz.results132,go_sem,hc]) rfl (Cm (c':=⟨0,2,t,CY t⟩) rfl HR.out (Fq hb _ _ _ _))
  ·rw[if_neg hv];rintro e w1 ⟨rfl,hb⟩;obtain⟨hc,hf⟩:=Du hb;have HR:Hid (FY s.data.toList=.no 4):=AA (by rw[HC.out,if_pos (by unfold Kr at hv;omega)]);go_wp2_with fail
   exact bodyPost_ret (v:=.tuple #[.agg #[.int .i64 0,.string ⟨#[]⟩,.int .i64 0,.int .i64 0],.int .i64 4]) (by simp[results,Tryz.results132,go_sem,hc]) rfl (Cm (c':=.no 4) rfl HR.out (Fq hb _ _ _ _))
def LQ (w:World):Prop:=∃t fr,w.heap[1]?=some (.cells Kx t fr)
theorem LQ.lt {w:World} (h:LQ w):1<w.heap.size:=by
 obtain⟨t,fr,h⟩:=h;exact(Array.getElem?_eq_some_iff.1 h).1
theorem LQ.on {w w':World} (h:LQ w) (hb:Below w.heap.size w w'):LQ w':=by
 have hl:=h.lt;obtain⟨t,fr,h⟩:=h;exact⟨t,fr,(hb.block 1 hl).trans h⟩
theorem LQ.alloc {w:World} (h:LQ w) (o:Obj):LQ (w.alloc o):=h.on ((Below.refl _ _).alloc (Nat.le_refl _) _)
theorem V6:∀k,k<19->∀w:World,(Instr.index 189 (.agg Kx) (.int .i64 (k:Nat))).run Tryz.prog w=.ok (.string ⟨(Bg.getD k []).toArray⟩) w:=by
 intro k hk w;have h:k=0\/k=1\/k=2\/k=3\/k=4\/k=5\/k=6\/k=7\/k=8\/k=9\/k=10\/k=11\/k=12\/k=13\/k=14\/k=15\/k=16\/k=17\/k=18:=by omega
 rcases h with rfl|rfl|rfl|rfl|rfl|rfl|rfl|rfl|rfl|rfl|rfl|rfl|rfl|rfl|rfl|rfl|rfl|rfl|rfl;all_goals(refine Eq.trans ?_ rfl;kernel_rfl)
theorem Yk {k:Nat} (hk:k<19):Bg[k]?=some (Bg.getD k []):=by
 rw[List.getD_eq_getElem?_getD,List.getElem?_eq_getElem (show k<Bg.length from hk)];rfl
theorem QC4 {l:List UInt8} (h:(Bg.take 19).find? (fun t=>t.isPrefixOf l)=none):Dm l=.no 3:=by
 unfold Dm Ey;rw[show Bg.take 19=Bg from rfl]at h;rw[h]
theorem QE5 {l:List UInt8} {L:List (List UInt8)} {k:Nat} {t:List UInt8} (ht:L[k]?=some t) (h:(L.take k).find? (fun t=>t.isPrefixOf l)=none) (hp:Lib.hasPrefix l t=false):(L.take (k+1)).find? (fun t=>t.isPrefixOf l)=none:=by
 rw[List.take_add_one,ht,List.find?_append,h];unfold Lib.hasPrefix at hp;simp[hp]
theorem QC5 {l:List UInt8} {L:List (List UInt8)} {k:Nat} {t:List UInt8} (ht:L[k]?=some t) (h:(L.take k).find? (fun t=>t.isPrefixOf l)=none) (hp:Lib.hasPrefix l t=true):L.find? (fun t=>t.isPrefixOf l)=some t:=by
 have e2:L=L.take (k+1)++L.drop (k+1):=by rw[List.take_append_drop]
 unfold Lib.hasPrefix at hp;rw[e2,List.take_add_one,ht,List.find?_append,List.find?_append,h];simp[hp]
theorem QE6 {l:List UInt8} {k:Nat} (hk:k<19) (h:(Bg.take k).find? (fun t=>t.isPrefixOf l)=none) (hp:Lib.hasPrefix l (Bg.getD k [])=false):(Bg.take (k+1)).find? (fun t=>t.isPrefixOf l)=none:=QE5 (Yk hk) h hp
theorem QC6 {l:List UInt8} {k:Nat} (hk:k<19) (h:(Bg.take k).find? (fun t=>t.isPrefixOf l)=none) (hp:Lib.hasPrefix l (Bg.getD k [])=true):Dm l=⟨0,3,Bg.getD k [],0⟩:=by
 unfold Dm Ey;rw[QC5 (Yk hk) h hp]
set_option maxHeartbeats 2000000 in
theorem QAu (s:ByteArray) (w:World) (hw:LQ w):Calls Tryz.prog 133 #[.string s] w (LP (Dm s.data.toList) w):=by
 have hix:=V6;obtain⟨tt,fr,hg⟩:=(hw.alloc (.cells #[.int .i64 0,.string ⟨#[]⟩,.int .i64 0,.int .i64 0] 67))
 have HG:=AA hg;have HX:=AA hix;clear hg hix;go_enter Tryz.func133,Tryz.ntmps133;go_wp2_with (refine wpList_load_row rfl 189 _ rfl 1 rfl tt Kx fr _ HG.out Tryz.underlying189 rfl (by kernel_rfl) ?_)
 go_loop [7] (fun i=>∃k:Nat,k<=19/\i=.int .i64 k/\(Bg.take k).find? (fun t=>t.isPrefixOf s.data.toList)=none) (fun i=>19-(intOf i).toNat)
 case atStart=>exact⟨0,Nat.zero_le _,rfl,rfl⟩
 case round=>
  obtain⟨k,hk,rfl,ha⟩:=hrel;have HA:=AA ha;clear ha;by_cases hlt:k<19
  ·have hx:=HX.out k hlt;cases hp:Lib.hasPrefix s.data.toList (Bg.getD k [])with
   |true=>
    have HR:=AA (QC6 hlt HA.out hp);generalize Bg.getD k []=t at *;have HP:=AA hp;clear hp;go_wp2_with fail
    refine(Tryz.strings_HasPrefix s ⟨t.toArray⟩ _).mono ?_;rw[show(ByteArray.mk t.toArray).data.toList=t from by simp,HP.out];rintro e w' ⟨rfl,rfl⟩;go_wp2_with fail
    exact bodyPost_ret (v:=.tuple #[.agg #[.int .i64 3,.string ⟨t.toArray⟩,.int .i64 0,.int .i64 0],.int .i64 0]) (by simp[results,Tryz.results133,go_sem]) rfl (Cm (c':=⟨0,3,t,0⟩) rfl HR.out ((Below.refl _ _).alloc (Nat.le_refl _) _))
   |false=>
    have HR:=AA (QE6 hlt HA.out hp);generalize Bg.getD k []=t at *;have HP:=AA hp;clear hp;go_wp2_with fail
    refine(Tryz.strings_HasPrefix s ⟨t.toArray⟩ _).mono ?_;rw[show(ByteArray.mk t.toArray).data.toList=t from by simp,HP.out];rintro e w' ⟨rfl,rfl⟩;go_wp2_with fail
    go_round;case rel=>exact⟨k+1,by omega,by go_num,HR.out⟩
    case measure=>simp[intOf];omega
  ·obtain rfl:k=19:=by omega
   have HR:=AA (QC4 HA.out);go_wp2_with fail
   exact bodyPost_ret (v:=.tuple #[.agg #[.int .i64 0,.string ⟨#[]⟩,.int .i64 0,.int .i64 0],.int .i64 3]) (by simp[results,Tryz.results133,go_sem]) rfl (Cm (c':=.no 3) rfl HR.out ((Below.refl _ _).alloc (Nat.le_refl _) _))
theorem QC7 (s:ByteArray) (h:0<s.size):AZ s.data.toList=if Ew s[0]=true then DY s.data.toList else if digB s[0]=true then FY s.data.toList else Dm s.data.toList:=by
 have e:=drop_at s 0 h;rw[List.drop_zero]at e;rw[e];rfl
set_option maxHeartbeats 2000000 in
theorem first_any (s:ByteArray) (w:World) (hs:s.size<=100000) (h0:0<s.size) (hw:LQ w):Calls Tryz.prog 75 #[.string s] w (LP (AZ s.data.toList) w):=by
 have hC:=QC7 s h0;have HW:=AA (hw.alloc (.cells #[.int .i64 0,.string ⟨#[]⟩,.int .i64 0,.int .i64 0] 67));cases h1:Ew (s[0]'h0)with
 |true=>
  rw[h1,if_pos rfl]at hC;rw[hC];have H1:=AA h1;clear h1 hC;generalize hc:DY s.data.toList=c;have HC:=AA hc;clear hc;go_enter Tryz.func75,Tryz.ntmps75;go_wp2_with fail
  refine(E0 _ _).mono ?_;rw[H1.out];rintro e w' ⟨rfl,rfl⟩;go_wp2_with fail
  refine(QC1 s _ hs).mono ?_;rw[HC.out];rintro e w1 ⟨rfl,hb⟩;obtain⟨hc,hf⟩:=Du hb;go_wp2_with fail
  exact bodyPost_ret (v:=.tuple #[.agg #[.int .i64 c.kind,.string ⟨c.text.toArray⟩,.int .i64 c.n,.int .i64 0],.int .i64 c.err]) (by simp[results,Tryz.results75,go_sem,hc]) rfl (Cm rfl rfl (Fq hb _ _ _ _))
 |false=>
  cases h2:digB (s[0]'h0)with
  |true=>
   rw[h1,if_neg (by simp),h2,if_pos rfl]at hC;rw[hC];have H1:=AA h1;have H2:=AA h2;clear h1 h2 hC;generalize hc:FY s.data.toList=c;have HC:=AA hc;clear hc;go_enter Tryz.func75,Tryz.ntmps75;go_wp2_with fail
   refine(E0 _ _).mono ?_;rw[H1.out];rintro e w' ⟨rfl,rfl⟩;go_wp2_with fail
   refine(JP _ _).mono ?_;rw[H2.out];rintro e w' ⟨rfl,rfl⟩;go_wp2_with fail
   refine(Xt s _ hs).mono ?_;rw[HC.out];rintro e w1 ⟨rfl,hb⟩;obtain⟨hc,hf⟩:=Du hb;go_wp2_with fail
   exact bodyPost_ret (v:=.tuple #[.agg #[.int .i64 c.kind,.string ⟨c.text.toArray⟩,.int .i64 c.n,.int .i64 0],.int .i64 c.err]) (by simp[results,Tryz.results75,go_sem,hc]) rfl (Cm rfl rfl (Fq hb _ _ _ _))
  |false=>
   rw[h1,if_neg (by simp),h2,if_neg (by simp)]at hC;rw[hC];have H1:=AA h1;have H2:=AA h2;clear h1 h2 hC;generalize hc:Dm s.data.toList=c;have HC:=AA hc;clear hc;go_enter Tryz.func75,Tryz.ntmps75;go_wp2_with fail
   refine(E0 _ _).mono ?_;rw[H1.out];rintro e w' ⟨rfl,rfl⟩;go_wp2_with fail
   refine(JP _ _).mono ?_;rw[H2.out];rintro e w' ⟨rfl,rfl⟩;go_wp2_with fail
   refine(QAu s _ HW.out).mono ?_;rw[HC.out];rintro e w1 ⟨rfl,hb⟩;obtain⟨hc,hf⟩:=Du hb;go_wp2_with fail
   exact bodyPost_ret (v:=.tuple #[.agg #[.int .i64 c.kind,.string ⟨c.text.toArray⟩,.int .i64 c.n,.int .i64 0],.int .i64 c.err]) (by simp[results,Tryz.results75,go_sem,hc]) rfl (Cm rfl rfl (Fq hb _ _ _ _))
theorem Xu (s p:ByteArray) (w:World):Calls Tryz.prog 72 #[.string s,.string p] w (Lu (Lib.hasPrefix s.data.toList p.data.toList) w):=
 (Tryz.strings_HasPrefix s p w).mono fun _ _ h=>⟨h.1,h.2.symm⟩
set_option maxRecDepth 100000 in
set_option maxHeartbeats 4000000 in
theorem QC8 (s:ByteArray) (w:World) (hs:s.size<=4000) (hw:LQ w):Calls Tryz.prog 21 #[.string s] w (TQ (AV s.data.toList 0) w):=by
 obtain⟨i0,hi,hz0,hz1,hz2⟩:=info_parts info31;have HZ:=AA (show Tryz.prog.info? 67=some i0/\i0.zero=some (.agg #[.int .i64 0,.string ⟨#[]⟩,.int .i64 0,.int .i64 0])/\i0.size=4/\i0.bytes=40 from⟨hi,hz0,hz1,hz2⟩);have HW:=AA hw;clear hi hz0 hz1 hz2 hw;have hs1:decide ((4000:Int)<(s.size:Int))=false:=by simp;omega
 go_enter Tryz.func21,Tryz.ntmps21;go_wp2_with fail
 go_step3
 go_wp2_with fail
 go_step3
 go_wp2_with fail
 go_loopw [5,6,7] (fun v i e wr=>∃(k:Nat) (L:List Tok),k<=s.size/\i=.int .i64 k/\e=.int .i64 0/\L2 wr w.heap.size v L/\Below w.heap.size w wr/\L.length<=k/\(AV (s.data.toList.drop k) k).pre L=AV s.data.toList 0) (fun _ i _ _=>s.size-(intOf i).toNat)
 case atStart=>exact⟨0,[],Nat.zero_le _,rfl,rfl,TT _ _,Below.refl _ _,Nat.le_refl _,by rw[List.drop_zero];exact pre_nil _ (Ge _ _).1 (Ge _ _).2⟩
 case round=>
  obtain⟨k,L,hk,rfl,rfl,hown,hbel,hlen,hinv⟩:=hrel;have HI:=AA hinv;have HO:=AA hown;have HB:=AA hbel;clear hinv hown hbel;by_cases hlt:k<s.size
  ·have HD:=AA (drop_at s k hlt);obtain⟨hz,h0,hc⟩:=QDy s k hlt;have HE:=AA (extract_drop s k);have HC:=AA hc;have HZ2:=AA hz;clear hc hz;cases hb:Eu (s[k]'hlt)with
   |true=>
    have HS:=AA (Y1 HD.out hb HI.out);have Hb:=AA hb;clear hb;go_wp2_with fail
    refine(Lr _ _).mono ?_;rw[HC.out,Hb.out];rintro e w' ⟨rfl,rfl⟩;go_wp2_with fail
    go_roundw;case rel=>exact⟨k+1,L,by omega,by go_num,rfl,HO.out,HB.out,by omega,HS.out⟩
    case measure=>simp[intOf];omega
   |false=>
    cases hr:D8 (s.data.toList.drop k)with
    |true=>
     have HS:=AA (QDu HD.out hb hr HI.out);have hl1:=QBL Hn (s.data.toList.drop k);have hl2:1<=((s.data.toList.drop k).takeWhile Hn).length:=by rw[HD.out]at hr⊢;exact PL hr
     rw[List.length_drop,E7]at hl1;have Hb:=AA hb;have Hr:=AA hr;clear hb hr;generalize hm:(s.data.toList.drop k).takeWhile Hn=m at *;have HM:=AA hm;clear hm;go_wp2_with fail
     refine(Lr _ _).mono ?_;rw[HC.out,Hb.out];rintro e w' ⟨rfl,rfl⟩;go_wp2_with fail
     refine(Xu _ _ _).mono ?_;rw[HE.out,show Lib.hasPrefix (s.data.toList.drop k) (ByteArray.mk #[47,47]).data.toList=true from Hr.out];rintro e w' ⟨rfl,rfl⟩;go_wp2_with fail
     refine(Xs _ _ (by rw[HZ2.out];omega)).mono ?_;rw[HE.out,HM.out];rintro e w' ⟨rfl,rfl⟩;go_wp2_with fail
     go_roundw;case rel=>exact⟨k+m.length,L,by omega,by go_num,rfl,HO.out,HB.out,by omega,HS.out⟩
     case measure=>simp[intOf];omega
    |false=>
     by_cases he:(AZ (s.data.toList.drop k)).err=0
     ·have HS:=AA (QDv HD.out hb hr he HI.out);have hok:=N7 he;have hl1:=hok.1.length_le;have hl2:=hok.2;rw[List.length_drop,E7]at hl1;have Hb:=AA hb;have Hr:=AA hr;have he2:((AZ (s.data.toList.drop k)).err != 0)=false:=by simpa using he
      have He:=AA he;clear hb hr hok he;generalize hm:AZ (s.data.toList.drop k)=m at *;have HM:=AA hm;clear hm;go_wp2_with fail
      refine(Lr _ _).mono ?_;rw[HC.out,Hb.out];rintro e w' ⟨rfl,rfl⟩;go_wp2_with fail
      refine(Xu _ _ _).mono ?_;rw[HE.out,show Lib.hasPrefix (s.data.toList.drop k) (ByteArray.mk #[47,47]).data.toList=false from Hr.out];rintro e w' ⟨rfl,rfl⟩;go_wp2_with fail
      refine(first_any _ _ (by rw[HZ2.out];omega) h0 (by exact(HW.out.on HB.out).alloc _)).mono ?_;rw[HE.out,HM.out];rintro e w1 ⟨rfl,hb⟩;obtain⟨hc,hf⟩:=Du hb;have hz3:wr.heap.size+1<=w1.heap.size:=by have:=hb.size;simpa using this
      go_upto_region 11 with(fail)
      have hbx:=WM hb (.int .i64 m.kind) (.string ⟨m.text.toArray⟩) (.int .i64 m.n) (.int .i64 0) (.int .i64 k);clear hc hf hb;change Code.wp _ _ _ _ (TR w1 wr.heap.size (.int .i64 m.kind) (.string ⟨m.text.toArray⟩) (.int .i64 m.n) (.int .i64 0) (.int .i64 k));generalize TR w1 wr.heap.size (.int .i64 m.kind) (.string ⟨m.text.toArray⟩) (.int .i64 m.n) (.int .i64 0) (.int .i64 k)=W2 at *;obtain⟨x0,x1,x2,x3,hbw,hsz⟩:=hbx;have HBW:=AA hbw;clear hbw hz3
      go_wp2_with (at_builtin;refine wpList_append_own _ rfl (.tmp 29) (.tmp 31) 53 rfl w.heap.size 67 i0 (.agg #[.int .i64 0,.string ⟨#[]⟩,.int .i64 0,.int .i64 0]) 4 40 Tryz.underlying53 HZ.out.1 HZ.out.2.1 HZ.out.2.2.1 HZ.out.2.2.2 rfl (by decide) _ L.length (D9 L) rfl ?cO ⟨W2.heap.size,0,none⟩ 1 1 (BJ ⟨m.kind,m.text,m.n,k⟩) rfl rfl ?c1 ?c2 ?c3 ?c4 ?c5 ?_)
      case cO=>exact QFs HO.out (HBW.out.alloc (by omega) _)
      case c1=>exact Y2 ⟨m.kind,m.text,m.n,k⟩
      case c2=>exact QDz _
      case c3=>unfold maxLen;omega
      case c4=>omega
      case c5=>have:=HB.out.size;simp;omega
      intro v' w3 hown' hgrow _;have R:=TS (t:=⟨m.kind,m.text,m.n,k⟩) HO.out HB.out HBW.out hsz hown' hgrow;have y1:=R.2.2 1 _ x1;have HR:=AA R;clear hown' hgrow R x0 x1 x2 x3;go_wp2_with fail
      go_roundw;case rel=>exact⟨k+m.text.length,_,by omega,by go_num,by rw[He.out],HR.out.1,HR.out.2.1,by simp;omega,HS.out⟩
      case measure=>simp[intOf];omega
     ·have HS:=AA (QDw HD.out hb hr he HI.out);have Hb:=AA hb;have Hr:=AA hr;have he2:((AZ (s.data.toList.drop k)).err != 0)=true:=by simpa using he
      clear hb hr;generalize hm:AZ (s.data.toList.drop k)=m at *;have HM:=AA hm;clear hm;go_wp2_with fail
      refine(Lr _ _).mono ?_;rw[HC.out,Hb.out];rintro e w' ⟨rfl,rfl⟩;go_wp2_with fail
      refine(Xu _ _ _).mono ?_;rw[HE.out,show Lib.hasPrefix (s.data.toList.drop k) (ByteArray.mk #[47,47]).data.toList=false from Hr.out];rintro e w' ⟨rfl,rfl⟩;go_wp2_with fail
      refine(first_any _ _ (by rw[HZ2.out];omega) h0 (by exact(HW.out.on HB.out).alloc _)).mono ?_;rw[HE.out,HM.out];rintro e w1 ⟨rfl,hb⟩;obtain⟨hc,hf⟩:=Du hb;have hz3:wr.heap.size+1<=w1.heap.size:=by have:=hb.size;simpa using this
      go_wp2_with fail
      rw[Exit.noGoto_ret]
      go_ret3
      exact OB rfl HS.out (TT _ _) (HB.out.trans ((Fq hb _ _ _ _).mono HB.out.size))
  ·have HS:=AA (QDx (by rw[E7];omega) HI.out);go_wp2_with fail
   rw[Exit.noGoto_ret]
   go_ret3
   exact OB rfl HS.out HO.out HB.out
end Go.Proofs.YthfkpalfopdmhaaGreatDoor
