/- Texts of the walk, packed. -/
import Derived.Test.YthfkpalfopdmhaaGreatDoorW08
import Derived.Test.YthfkpalfopdmhaaGreatDoorW09
import Derived.StillTailTactics
import Derived.Test.YthfkpalfopdmhaaGreatDoorW00
namespace Go.Proofs.YthfkpalfopdmhaaGreatDoor
open Go.RowKit
def errOf:Res->Int
 |.ok _ _=>0
 |.bad e _=>e
def GY:Res->Nat
 |.ok _ tq=>tq
 |.bad _ j=>j
def FZ (i:Nat):Res->Prt->Prop
 |.ok x _,P=>P=BL x
 |.bad _ j,P=>P.ns.length<=40/\P.ns.length<=P.many/\P.many<=j-i+1/\P.deep<=j-i+1
def ED (L:List Tok) (g:Nat) (v:Value) (d i:Nat) (r:Res) (w:World) (e:Ending) (w':World):Prop:=
 ∃(P:Prt) (A:Option Addr) (n c:Nat),FZ i r P/\e=.returned (.tuple #[.agg #[.slice A n c,.int .i64 P.many,.int .i64 P.deep],.int .i64 (errOf r)])/\Bn w' w.heap.size (.slice A n c) P.ns/\Sits L w' g v (GY r) d/\Ac g w w'
theorem K7 (i:Nat) (e:Int) (j:Nat):FZ i (.bad e j) ⟨[],0,0⟩:=⟨by simp,by simp,Nat.zero_le _,Nat.zero_le _⟩
theorem Eh {w:World} {B:Nat} {v:Value} {L:List Nod} (h:Bn w B v L):∃A n c,v=.slice A n c:=by
 rcases h.2 with⟨rfl,_⟩|⟨g',cap,cur,rfl,_⟩
 ·exact⟨_,_,_,rfl⟩
 ·exact⟨_,_,_,rfl⟩
theorem Ta {x:Ex} (h:x.size<=10000):QK (BL x):=by
 have hd:=IQ x;refine⟨?_,by show x.size<=_;omega,by show x.deep<=_;omega⟩;show(if x.size<=40 then x.flat else[]).length<=40;split
 ·rw[Bt];assumption
 ·simp
theorem Sits.upto {L:List Tok} {w w':World} {g B:Nat} {v:Value} {i d:Nat} (h:Sits L w g v i d) (hb:Below B w w') (hB:g<B):Sits L w' g v i d:=by
 obtain⟨⟨hlt,c0,c1,c2,f1,f2⟩,⟨A,c,hv,hc,hr⟩,ht,hfar⟩:=h;have e:∀b o,b<=g->w'.cell? ⟨b,o,none⟩=w.cell? ⟨b,o,none⟩:=fun b o hb'=>World.cell?_of_block (hb.block b (by omega))
 have f:∀b o,b<=g->w'.frozen? ⟨b,o,none⟩=w.frozen? ⟨b,o,none⟩:=fun b o hb'=>World.frozen?_of_block (hb.block b (by omega))
 refine⟨⟨Nat.lt_of_lt_of_le hlt hb.size,(e _ _ (Nat.le_refl _)).trans c0,(e _ _ (Nat.le_refl _)).trans c1,(e _ _ (Nat.le_refl _)).trans c2,(f _ _ (Nat.le_refl _)).trans f1,(f _ _ (Nat.le_refl _)).trans f2⟩,⟨A,c,hv,hc,fun i t hi=>?_⟩,ht.same fun k hk=>hb.block k (by omega),hfar⟩;obtain⟨b,hA,hbg,h0,h1,h2,h3⟩:=hr i t hi;exact⟨b,hA,hbg,(e _ _ (by omega)).trans h0,(e _ _ (by omega)).trans h1,(e _ _ (by omega)).trans h2,(e _ _ (by omega)).trans h3⟩
theorem Ac.andBelow {g B:Nat} {w w1 w2:World} (h:Ac g w w1) (hb:Below B w1 w2) (hB:w.heap.size<=B):Ac g w w2:=
 ⟨hb.os.trans h.os,hb.tape.trans h.tape,hb.output.trans h.output,Nat.le_trans h.size hb.size,fun k hk hg=>(hb.block k (by omega)).trans (h.block k hk hg)⟩
theorem EE (B:Nat) (w:World):Below B w w.drew:=⟨rfl,rfl,rfl,Nat.le_refl _,fun _ _=>rfl⟩
theorem Wl (B:Nat) (w:World) (n:Nat):Below B w (w.drewN n):=⟨rfl,rfl,rfl,Nat.le_refl _,fun _ _=>rfl⟩
theorem Bn.upto {w w':World} {B C:Nat} {v:Value} {L:List Nod} (h:Bn w B v L) (hb:Below C w w') (hC:∀b,v.ownBlock=some b->b<C):Bn w' B v L:=by
 obtain⟨h1,h2⟩:=h;refine⟨h1,?_⟩;rcases h2 with h2|⟨b,cap,cur,rfl,hg,hh,r⟩
 ·exact .inl h2
 ·exact .inr ⟨b,cap,cur,rfl,hg,(hb.block b (hC b rfl)).trans hh,r⟩
structure Nd (w:World) (g:Nat) (x0 x1 x2 x3:Value):Prop where
 lt:g<w.heap.size
 c0:w.cell? ⟨g,0,none⟩=some x0
 c1:w.cell? ⟨g,1,none⟩=some x1
 c2:w.cell? ⟨g,2,none⟩=some x2
 c3:w.cell? ⟨g,3,none⟩=some x3
 f0:w.frozen? ⟨g,0,none⟩=false
 f1:w.frozen? ⟨g,1,none⟩=false
 f2:w.frozen? ⟨g,2,none⟩=false
theorem Tc (w:World) (x0 x1 x2 x3:Value) (t:TypeId):Nd (w.alloc (.cells #[x0,x1,x2,x3] t)) w.heap.size x0 x1 x2 x3:=⟨by simp,by simp,by simp,by simp,by simp,by simp,by simp,by simp⟩
theorem Nd.on {w w':World} {g:Nat} {x0 x1 x2 x3:Value} (h:Nd w g x0 x1 x2 x3) (hb:Below w.heap.size w w'):Nd w' g x0 x1 x2 x3:=
 ⟨Nat.lt_of_lt_of_le h.lt hb.size,(hb.cell (p:=⟨g,0,none⟩) h.lt).trans h.c0,(hb.cell (p:=⟨g,1,none⟩) h.lt).trans h.c1,(hb.cell (p:=⟨g,2,none⟩) h.lt).trans h.c2,(hb.cell (p:=⟨g,3,none⟩) h.lt).trans h.c3,(hb.frozen (p:=⟨g,0,none⟩) h.lt).trans h.f0,(hb.frozen (p:=⟨g,1,none⟩) h.lt).trans h.f1,(hb.frozen (p:=⟨g,2,none⟩) h.lt).trans h.f2⟩
theorem C0 {L:List Tok} {g:Nat} {v:Value} {d i:Nat} {r:Res} {w w5:World} {P:Prt} {A:Option Addr} {n c rb:Nat} {x y z:Value} {err:Int} (hP:FZ i r P) (hE:err=errOf r) (ho:Bn w5 w.heap.size (.slice A n c) P.ns) (hob:∀b,(Value.slice A n c).ownBlock=some b->b≠rb) (hS:Sits L w5 g v (GY r) d) (hK:Ac g w w5) (hg:g<rb) (hr:w.heap.size<=rb):
  ED L g v d i r w (.returned (.tuple #[.agg #[.slice A n c,.int .i64 P.many,.int .i64 P.deep],.int .i64 err])) (((w5.setCell ⟨rb,0,none⟩ x).setCell ⟨rb,1,none⟩ y).setCell ⟨rb,2,none⟩ z):=by
 subst hE;have hb:Below rb w5 (((w5.setCell ⟨rb,0,none⟩ x).setCell ⟨rb,1,none⟩ y).setCell ⟨rb,2,none⟩ z):=(((Below.refl rb w5).setCell (p:=⟨rb,0,none⟩) (Nat.le_refl _) x).setCell (p:=⟨rb,1,none⟩) (Nat.le_refl _) y).setCell (p:=⟨rb,2,none⟩) (Nat.le_refl _) z;exact⟨P,A,n,c,hP,rfl,ho.away hob (((Ac.refl _ _).set).set).set,hS.upto hb hg,hK.andBelow hb hr⟩
theorem ED.on {L:List Tok} {g:Nat} {v:Value} {d i:Nat} {r:Res} {w w' w'':World} {e:Ending} (h:ED L g v d i r w e w') (hb:Below w'.heap.size w' w''):ED L g v d i r w e w'':=by
 obtain⟨P,A,n,c,h1,h2,h3,h4,h5⟩:=h;exact⟨P,A,n,c,h1,h2,h3.on hb,h4.on hb,h5.andBelow hb h5.size⟩
theorem QN {L:List Tok} {g:Nat} {v:Value} {d i rb b:Nat} {w W:World} {x y:Value} {j k:Nat} (hS:Sits L W g v i d) (hP:Pd W rb (.slice none 0 0) (.int .i64 0) (.int .i64 0)) (hB:Below w.heap.size w W) (hgb:g<b) (hrb:rb<b) (hgr:g<rb) (hwb:w.heap.size<=b):
  ∃Y,Y=(((W.setCell ⟨b,j,none⟩ x).setCell ⟨b,k,none⟩ y).setCell ⟨g,1,none⟩ (.int .i64 ((i:Int)+1))).drew/\Sits L Y g v (i+1) d/\Pd Y rb (.slice none 0 0) (.int .i64 0) (.int .i64 0)/\Ac g w Y:=by
 refine⟨_,rfl,?_,?_,?_⟩
 ·have h1:Below b W ((W.setCell ⟨b,j,none⟩ x).setCell ⟨b,k,none⟩ y):=((Below.refl b W).setCell (p:=⟨b,j,none⟩) (Nat.le_refl _) x).setCell (p:=⟨b,k,none⟩) (Nat.le_refl _) y;exact((hS.upto h1 hgb).set1 (i+1)).on (EE _ _)
 ·exact(((hP.away (by omega)).away (by omega)).away (by omega)).on (EE _ _)
 ·exact(Ac.of ((hB.setCell hwb _).setCell hwb _)).set.andBelow (EE _ _) (Nat.le_refl _)
theorem SC (w:World):QL w (.slice none 0 0) []:=⟨none,0,rfl,Nat.le_refl _,fun i p h=>by simp at h⟩
theorem NJ (w1:World) (t:Tok):∃W,W=((w1.alloc (.cells #[.int .i64 t.kind,.string ⟨t.text.toArray⟩,.int .i64 t.n,.int .i64 t.pl] 67)).alloc (.cells #[.int .i64 0,.int .i64 0,.string ⟨#[]⟩,.int .i64 t.pl] 46)).drew/\
  Nd W w1.heap.size (.int .i64 t.kind) (.string ⟨t.text.toArray⟩) (.int .i64 t.n) (.int .i64 t.pl)/\Nd W (w1.heap.size+1) (.int .i64 0) (.int .i64 0) (.string ⟨#[]⟩) (.int .i64 t.pl)/\Below w1.heap.size w1 W:=by
 refine⟨_,rfl,?_,?_,?_⟩
 ·exact((Tc w1 _ _ _ _ 67).on ((Below.refl _ _).alloc (Nat.le_refl _) _)).on (EE _ _)
 ·have:=Tc (w1.alloc (.cells #[.int .i64 t.kind,.string ⟨t.text.toArray⟩,.int .i64 t.n,.int .i64 t.pl] 67)) (.int .i64 0) (.int .i64 0) (.string ⟨#[]⟩) (.int .i64 t.pl) 46;rw[show(w1.alloc (.cells #[.int .i64 t.kind,.string ⟨t.text.toArray⟩,.int .i64 t.n,.int .i64 t.pl] 67)).heap.size=w1.heap.size+1 from by simp]at this;exact this.on (EE _ _)
 ·exact(((Below.refl _ _).alloc (Nat.le_refl _) _).alloc (by simp) _).trans (EE _ _)
set_option maxRecDepth 100000 in
set_option maxHeartbeats 4000000 in
theorem QBf (L:List Tok) (g:Nat) (v:Value) (i d:Nat) (w:World) (h:Sits L w g v i d) (hl:L.length<=10000) (hs:Gf L):Calls Tryz.prog 266 #[.pointer (some ⟨g,0,none⟩)] w (ED L g v d i (Fe L i) w):=by
 have HS:=AA h;have hgl:=h.rd.lt;by_cases hend:L.length<=i
 ·have HD:Hid (decide (L.length<=i)=true):=AA (by simpa using hend);have HR:Hid (Fe L i=.bad 6 i):=AA (by unfold Fe;rw[List.getElem?_eq_none hend]);have HI:Hid ((if L.length<=i then(6:Int)else 5)=6):=AA (if_pos hend);have HB0:=AA ((Below.refl w.heap.size w).alloc (Nat.le_refl _) (.cells #[.slice none 0 0,.int .i64 0,.int .i64 0] 238));clear h hend;go_enter Tryz.func266,Tryz.ntmps266;go_wp2_with fail
  refine(LZ L g v i d _ (HS.out.on HB0.out)).mono ?_;rw[HD.out];rintro e w1 ⟨rfl,hb⟩;have HB1:=AA (AC HB0.out hb);obtain⟨hc,hf⟩:=Du hb;have hz:w.heap.size<w1.heap.size:=by have:=hb.size;simp at this;omega
  clear hb;go_wp2_with fail
  refine(J6 L g v i d _ (HS.out.on HB1.out)).mono ?_;rw[HI.out];rintro e w2 ⟨rfl,hb⟩;have HB2:=AA (AC HB1.out hb);obtain⟨hc2,hf2⟩:=Du hb;have hz2:w.heap.size<w2.heap.size:=by have:=hb.size;omega
  clear hb;go_wp2_with fail
  refine bodyPost_ret (v:=.tuple #[.agg #[.slice none 0 0,.int .i64 0,.int .i64 0],.int .i64 6]) (by simp[results,Tryz.results266,go_sem, *]) rfl ?_;rw[HR.out];have HB3:=((HB2.out.setCell (p:=⟨w.heap.size,0,none⟩) (Nat.le_refl _) (.slice none 0 0)).setCell (p:=⟨w.heap.size,1,none⟩) (Nat.le_refl _) (.int .i64 0)).setCell (p:=⟨w.heap.size,2,none⟩) (Nat.le_refl _) (.int .i64 0);exact⟨⟨[],0,0⟩,_,_,_,K7 _ _ _,rfl,E8 _ _,HS.out.on HB3,Ac.of HB3⟩
 ·have hlt:i<L.length:=by omega
  have HD:Hid (decide (L.length<=i)=false):=AA (by simpa using hend);have hat:L[i]?=some L[i]:=List.getElem?_eq_getElem hlt;have hsm:=hs _ (List.getElem_mem hlt);have HB0:=AA ((Below.refl w.heap.size w).alloc (Nat.le_refl _) (.cells #[.slice none 0 0,.int .i64 0,.int .i64 0] 238));generalize L[i]=t at *;have HAT:=AA hat;clear h hend hs;go_enter Tryz.func266,Tryz.ntmps266;go_wp2_with fail
  refine(LZ L g v i d _ (HS.out.on HB0.out)).mono ?_;rw[HD.out];rintro e w1 ⟨rfl,hb⟩;have HB1:=AA (AC HB0.out hb);have HP:=AA ((GQ w (.slice none 0 0) (.int .i64 0) (.int .i64 0)).on hb);have hz:w.heap.size<w1.heap.size:=by have:=hb.size;simp at this;omega
  clear hb;have HS1:=AA (HS.out.on HB1.out);obtain⟨⟨hg1,c0,c1,c2,f1,f2⟩,⟨A,c,hv,hc,hr⟩,_,_⟩:=HS1.out;obtain⟨b,rfl,hb,x0,x1,x2,x3⟩:=hr i t hat;subst hv;clear hr hat;have hi0:(0:Int)<=(i:Int):=by omega
  have hi1:(i:Int)<(L.length:Int):=by omega
  go_wp2_with fail
  have n0:=World.new_ne w1 _ c0;have n1:=World.new_ne w1 _ c1;have m0:=World.new_ne w1 _ x0;have m1:=World.new_ne w1 _ x1;have m2:=World.new_ne w1 _ x2;have m3:=World.new_ne w1 _ x3;go_region_held3 (fun w'=>w'.cell? ⟨g,0,none⟩=some (.slice (some ⟨b,0,none⟩) L.length c)/\w'.cell? ⟨g,1,none⟩=some (.int .i64 i)/\w'.cell? ⟨b,i*4,none⟩=some (.int .i64 t.kind)/\w'.cell? ⟨b,i*4+1,none⟩=some (.string ⟨t.text.toArray⟩)/\w'.cell? ⟨b,i*4+2,none⟩=some (.int .i64 t.n)/\w'.cell? ⟨b,i*4+3,none⟩=some (.int .i64 t.pl))
   (first|exact⟨c0,c1,x0,x1,x2,x3⟩|go_keep)
   (fail)
  have HG:Hid (g<w.heap.size):=AA hgl;clear c0 c1 c2 f1 f2 x0 x1 x2 x3 n0 n1 m0 m1 m2 m3 hi0 hi1;cases e1:(t.kind==2)with
  |true=>
   have HR:Hid (Fe L i=.ok (.leaf ⟨1,t.n,[],t.pl⟩) (i+1)):=AA (by unfold Fe;rw[HAT.out];simp at e1;simp[e1]);go_wp2_with fail
   obtain⟨W,hW,hT,hN,hBW⟩:=NJ w1 t;rw[<-hW];clear hW;have HSW:=AA (HS1.out.on hBW);have HPW:=AA (HP.out.on hBW);have HBW:=AA (AC HB1.out hBW);have HN:=AA hN;obtain⟨t0,t1,t2,t3,t4,t5,t6,t7⟩:=hT;obtain⟨n0,n1,n2,n3,n4,n5,n6,n7⟩:=hN;clear hBW;have hne:¬w1.heap.size=w1.heap.size+1:=by omega
   go_region
   obtain⟨⟨hgW,c0,c1,c2,f1,f2⟩,_,_,_⟩:=HSW.out;have hne2:¬w1.heap.size+1=g:=by omega
   have hne3:¬g=w1.heap.size+1:=by omega
   go_wp2_with fail
   obtain⟨Y,hY,hSY,hPY,hKY⟩:=QN (b:=w1.heap.size+1) (j:=0) (k:=1) (x:=.int .i64 1) (y:=.int .i64 t.n) HSW.out HPW.out HBW.out (by omega) (by omega) hgl (by omega);rw[<-hY];have HSY:=AA hSY;have HPY:=AA hPY;have HKY:=AA hKY;clear hY hSY hPY hKY n0 n1 n2 n3 n4 n5 n6 n7 t0 t1 t2 t3 t4 t5 t6 t7 c0 c1 c2 f1 f2;have hyl:=HPY.out.lt;refine(NI ⟨1,t.n,[],t.pl⟩ _ [] Y (SC Y) (by simp) (by simp)).mono ?_;rw[Rz];rintro e w5 ⟨u,rfl,ho,hb5⟩;obtain⟨A5,n5,c5,rfl⟩:=Eh ho;have HO:=AA ho;have HB5:=AA hb5;obtain⟨p0,p1,p2,p3,p4,p5,p6⟩:=HPY.out.on hb5;clear ho hb5;go_wp2_with fail
   refine bodyPost_ret (v:=.tuple #[.agg #[.slice A5 n5 c5,.int .i64 (BL (.leaf ⟨1,t.n,[],t.pl⟩)).many,.int .i64 (BL (.leaf ⟨1,t.n,[],t.pl⟩)).deep],.int .i64 0]) (by simp[results,Tryz.results266,go_sem, *]) rfl ?_;rw[HR.out];exact C0 (P:=BL (.leaf ⟨1,t.n,[],t.pl⟩)) rfl rfl (HO.out.base (by omega)) (fun b hb=>by have:=(Ba HO.out b hb).1;omega) (HSY.out.on HB5.out) (HKY.out.andBelow HB5.out (by have:=HKY.out.size;omega)) hgl (Nat.le_refl _)
  |false=>
   have HI:Hid ((if L.length<=i then(6:Int)else 5)=5):=AA (if_neg (by omega));cases e2:(t.kind==1)with
   |false=>
    have HR:Hid (Fe L i=.bad 5 i):=AA (by unfold Fe;rw[HAT.out];simp at e1 e2;simp[e1,e2]);go_wp2_with fail
    obtain⟨W,hW,hT,hN,hBW⟩:=NJ w1 t;rw[<-hW];have HSX:=AA (HS1.out.on hBW);have HPX:=AA (HP.out.on hBW);have HKX:Hid (Ac g w W):=AA (Ac.of (AC HB1.out hBW));clear hW hT hN hBW;generalize hv0:Value.slice (some ⟨b,0,none⟩) L.length c=v0 at *;have HV0:=AA hv0;clear hv0;refine(J6 L g v0 i d _ HSX.out).mono ?_;rw[HI.out];rintro e w2 ⟨rfl,hb2⟩;have HB2:=AA hb2;obtain⟨p0,p1,p2,p3,p4,p5,p6⟩:=HPX.out.on hb2;clear hb2;go_wp2_with fail
    refine bodyPost_ret (v:=.tuple #[.agg #[.slice none 0 0,.int .i64 0,.int .i64 0],.int .i64 5]) (by simp[results,Tryz.results266,go_sem, *]) rfl ?_;rw[HR.out];exact C0 (P:=⟨[],0,0⟩) (K7 _ _ _) rfl (E8 _ _) (fun b hb=>by simp[Value.ownBlock]at hb) (HSX.out.on HB2.out) (HKX.out.andBelow HB2.out (by have:=HKX.out.size;omega)) hgl (Nat.le_refl _)
   |true=>
    cases e3:nameB t.text with
    |false=>
     have HR:Hid (Fe L i=.bad 5 i):=AA (by unfold Fe;rw[HAT.out];simp at e1;simp[e1,e3]);have H3:=AA e3;clear e3;go_wp2_with fail
     obtain⟨W,hW,hT,hN,hBW⟩:=NJ w1 t;rw[<-hW];have HSW:=AA (HS1.out.on hBW);have HPW:=AA (HP.out.on hBW);have HKW:Hid (Ac g w W):=AA (Ac.of (AC HB1.out hBW));clear hW hT hN hBW;refine(name_any ⟨t.text.toArray⟩ _ (by show t.text.toArray.size<=_;simpa using hsm.2)).mono ?_;rw[show(ByteArray.mk t.text.toArray).data.toList=t.text from by simp,H3.out];rintro e X ⟨rfl,hbx⟩;have HSX:=AA (HSW.out.on hbx);have HPX:=AA (HPW.out.on hbx);have HKX:Hid (Ac g w X):=AA (HKW.out.andBelow hbx HKW.out.size);clear hbx;generalize hv0:Value.slice (some ⟨b,0,none⟩) L.length c=v0 at *;have HV0:=AA hv0;clear hv0
     go_wp2_with fail
     refine(J6 L g v0 i d _ HSX.out).mono ?_;rw[HI.out];rintro e w2 ⟨rfl,hb2⟩;have HB2:=AA hb2;obtain⟨p0,p1,p2,p3,p4,p5,p6⟩:=HPX.out.on hb2;clear hb2;go_wp2_with fail
     refine bodyPost_ret (v:=.tuple #[.agg #[.slice none 0 0,.int .i64 0,.int .i64 0],.int .i64 5]) (by simp[results,Tryz.results266,go_sem, *]) rfl ?_;rw[HR.out];exact C0 (P:=⟨[],0,0⟩) (K7 _ _ _) rfl (E8 _ _) (fun b hb=>by simp[Value.ownBlock]at hb) (HSX.out.on HB2.out) (HKX.out.andBelow HB2.out (by have:=HKX.out.size;omega)) hgl (Nat.le_refl _)
    |true=>
     have HR:Hid (Fe L i=.ok (.leaf ⟨2,0,t.text,t.pl⟩) (i+1)):=AA (by unfold Fe;rw[HAT.out];simp at e1 e2;simp[e2,e3]);have H3:=AA e3;clear e3;go_wp2_with fail
     obtain⟨W0,hW,hT,hN,hBW⟩:=NJ w1 t;rw[<-hW];have HS0:=AA (HS1.out.on hBW);have HP0:=AA (HP.out.on hBW);have HB0':=AA (AC HB1.out hBW);have HT0:=AA hT;have HN0:=AA hN;clear hW hT hN hBW;refine(name_any ⟨t.text.toArray⟩ _ (by show t.text.toArray.size<=_;simpa using hsm.2)).mono ?_;rw[show(ByteArray.mk t.text.toArray).data.toList=t.text from by simp,H3.out];rintro e W ⟨rfl,hbx⟩;have HSW:=AA (HS0.out.on hbx);have HPW:=AA (HP0.out.on hbx);have HBW:=AA (AC HB0'.out hbx);obtain⟨t0,t1,t2,t3,t4,t5,t6,t7⟩:=HT0.out.on hbx;obtain⟨n0,n1,n2,n3,n4,n5,n6,n7⟩:=HN0.out.on hbx;clear hbx
     have hne:¬w1.heap.size=w1.heap.size+1:=by omega
     go_wp2_with fail
     go_region
     obtain⟨⟨hgW,c0,c1,c2,f1,f2⟩,_,_,_⟩:=HSW.out;have hne2:¬w1.heap.size+1=g:=by omega
     have hne3:¬g=w1.heap.size+1:=by omega
     go_wp2_with fail
     obtain⟨Y,hY,hSY,hPY,hKY⟩:=QN (b:=w1.heap.size+1) (j:=0) (k:=2) (x:=.int .i64 2) (y:=.string ⟨t.text.toArray⟩) HSW.out HPW.out HBW.out (by omega) (by omega) hgl (by omega);rw[<-hY];have HSY:=AA hSY;have HPY:=AA hPY;have HKY:=AA hKY;clear hY hSY hPY hKY n0 n1 n2 n3 n4 n5 n6 n7 t0 t1 t2 t3 t4 t5 t6 t7 c0 c1 c2 f1 f2;have hyl:=HPY.out.lt;refine(NI ⟨2,0,t.text,t.pl⟩ _ [] Y (SC Y) (by simp) (by simp)).mono ?_;rw[Rz];rintro e w5 ⟨u,rfl,ho,hb5⟩;obtain⟨A5,n5,c5,rfl⟩:=Eh ho;have HO:=AA ho;have HB5:=AA hb5;obtain⟨p0,p1,p2,p3,p4,p5,p6⟩:=HPY.out.on hb5;clear ho hb5;go_wp2_with fail
     refine bodyPost_ret (v:=.tuple #[.agg #[.slice A5 n5 c5,.int .i64 (BL (.leaf ⟨2,0,t.text,t.pl⟩)).many,.int .i64 (BL (.leaf ⟨2,0,t.text,t.pl⟩)).deep],.int .i64 0]) (by simp[results,Tryz.results266,go_sem, *]) rfl ?_;rw[HR.out];exact C0 (P:=BL (.leaf ⟨2,0,t.text,t.pl⟩)) rfl rfl (HO.out.base (by omega)) (fun b hb=>by have:=(Ba HO.out b hb).1;omega) (HSY.out.on HB5.out) (HKY.out.andBelow HB5.out (by have:=HKY.out.size;omega)) hgl (Nat.le_refl _)
def Gi (L:List Tok) (f:Nat):Prop:=∀(i d:Nat) (r:Res) (g:Nat) (v:Value) (w:World),d<=12->BU L f i d=some r->Sits L w g v i d->Calls Tryz.prog 236 #[.pointer (some ⟨g,0,none⟩)] w (ED L g v d i r w)
def Gj (L:List Tok) (f:Nat):Prop:=∀(b i d:Nat) (r:Res) (g:Nat) (v:Value) (w:World),1<=b->b<=6->d<=12->Ah L f b i d=some r->Sits L w g v i d->Calls Tryz.prog 218 #[.pointer (some ⟨g,0,none⟩),.int .i64 b] w (ED L g v d i r w)
theorem Pd.keep {g b:Nat} {w w':World} {x y z:Value} (h:Pd w b x y z) (hb:b≠g) (hk:Ac g w w'):Pd w' b x y z:=
 ⟨Nat.lt_of_lt_of_le h.lt hk.size,(hk.cell h.lt hb).trans h.c0,(hk.cell h.lt hb).trans h.c1,(hk.cell h.lt hb).trans h.c2,(hk.frozen h.lt hb).trans h.f0,(hk.frozen h.lt hb).trans h.f1,(hk.frozen h.lt hb).trans h.f2⟩
theorem VJ {L:List Tok} {g:Nat} {v:Value} {i d:Nat} {w:World} (h:Sits L w g v i d):
  ∃Y,Y=((w.setCell ⟨g,1,none⟩ (.int .i64 ((i:Int)+1))).setCell ⟨g,2,none⟩ (.int .i64 ((d:Int)+1))).alloc (.cells #[.slice none 0 0,.int .i64 0,.int .i64 0] 238)/\Sits L Y g v (i+1) (d+1)/\Pd Y w.heap.size (.slice none 0 0) (.int .i64 0) (.int .i64 0)/\Ac g w Y:=by
 refine⟨_,rfl,?_,?_,?_⟩
 ·exact((h.set1 (i+1)).set2 (d+1)).on ((Below.refl _ _).alloc (Nat.le_refl _) _)
 ·have:=GQ ((w.setCell ⟨g,1,none⟩ (.int .i64 ((i:Int)+1))).setCell ⟨g,2,none⟩ (.int .i64 ((d:Int)+1))) (.slice none 0 0) (.int .i64 0) (.int .i64 0);simpa using this
 ·exact(((Ac.refl g w).set).set).andBelow ((Below.refl _ _).alloc (Nat.le_refl _) _) (by simp)
set_option maxRecDepth 100000 in
set_option maxHeartbeats 4000000 in
theorem RZ (L:List Tok) (g:Nat) (v:Value) (i d:Nat) (w:World) (h:Sits L w g v i d) (hl:L.length<=10000) (hi:i<L.length) (hd:d<12) (f:Nat) (hf:Gi L f) (r:Res) (hr:BU L f (i+1) (d+1)=some r):
  Calls Tryz.prog 263 #[.pointer (some ⟨g,0,none⟩),.func (.func 236) #[.pointer (some ⟨g,0,none⟩)] #[]] w (ED L g v d (i+1) r w):=by
 have HS:=AA h;have HF:=AA hf;have HR:=AA hr;obtain⟨⟨hgl,c0,c1,c2,f1,f2⟩,_,_,_⟩:=h;clear hf hr;have hd2:((d:Int)==12)=false:=beq_eq_false_iff_ne.2 (by omega);go_enter Tryz.func263,Tryz.ntmps263;go_wp2_with fail
 obtain⟨Y,hY,hSY,hPY,hKY⟩:=VJ HS.out;rw[<-hY];have HSY:=AA hSY;have HPY:=AA hPY;have HKY:=AA hKY;clear hY hSY hPY hKY c0 c1 c2 f1 f2;refine(HF.out (i+1) (d+1) r g v Y (by omega) HR.out HSY.out).mono ?_;rintro e w1 ⟨P,A,n,c,hP,rfl,ho,hS1,hK1⟩;have hyl:=HPY.out.lt;have HP:=AA hP;have HO:=AA ho;have HS1:=AA hS1;have HK1:=AA hK1;obtain⟨⟨hg1,c0,c1,c2,f1,f2⟩,_,_,_⟩:=hS1;obtain⟨p0,p1,p2,p3,p4,p5,p6⟩:=HPY.out.keep (by omega) hK1;clear hP ho hK1;have hne:¬g=w.heap.size:=by omega
 have hne2:¬w.heap.size=g:=by omega
 go_wp2_with fail
 refine bodyPost_ret (v:=.tuple #[.agg #[.slice A n c,.int .i64 P.many,.int .i64 P.deep],.int .i64 (errOf r)]) (by simp[results,Tryz.results263,go_sem, *]) rfl ?_;refine ED.on (C0 (w5:=w1.setCell ⟨g,2,none⟩ (.int .i64 d)) (rb:=w.heap.size) HP.out rfl (HO.out.keep (by omega) (Ac.refl _ _).set |>.base (by omega)) (fun b hb=>by have:=(Ba HO.out b hb).1;omega) (HS1.out.set2 d) ((HKY.out.trans HK1.out).set) hgl (Nat.le_refl _)) ((Below.refl _ _).alloc (Nat.le_refl _) _)
def JG (L:List Tok):Res->Res
 |.ok x tq=>if isB L tq [41]=true then .ok x (tq+1)else Ic L tq
 |.bad e j=>.bad e j
theorem ZT {L:List Tok} {x:Ex} {tq:Nat} (h:isB L tq [41]=true):JG L (.ok x tq)=.ok x (tq+1):=by
 show(if isB L tq [41]=true then Res.ok x (tq+1)else Ic L tq)=_;rw[if_pos h]
theorem QBg {L:List Tok} {x:Ex} {tq:Nat} (h:isB L tq [41]=false):JG L (.ok x tq)=Ic L tq:=by
 show(if isB L tq [41]=true then Res.ok x (tq+1)else Ic L tq)=_;rw[if_neg (by rw[h];simp)]
theorem ZU (L:List Tok) (g:Nat) (v:Value) (i d:Nat) (ee:Int) (he:(if L.length<=i then(6:Int)else 5)=ee) (w:World) (h:Sits L w g v i d) (hq:isB L i [41]=false):Calls Tryz.prog 265 #[.pointer (some ⟨g,0,none⟩)] w (QBc L g v i d ee w):=by
 subst he;exact ZR L g v i d w h hq
theorem G7 {w:World} {b p o:Nat} {x y z:Value} (h:b≠p):(((w.setCell ⟨b,0,none⟩ x).setCell ⟨b,1,none⟩ y).setCell ⟨b,2,none⟩ z).cell? ⟨p,o,none⟩=w.cell? ⟨p,o,none⟩:=by
 rw[World.cell?_setCell_other _ _ _ _ (fun e=>h (congrArg Addr.block e)),World.cell?_setCell_other _ _ _ _ (fun e=>h (congrArg Addr.block e)),World.cell?_setCell_other _ _ _ _ (fun e=>h (congrArg Addr.block e))]
theorem QD5 {L:List Tok} {i tq:Nat} {x:Ex} (e:Int) (hf:Py L i (.ok x tq)):FZ i (.bad e tq) (BL x):=by
 obtain⟨h1,h2,h3,h4,h5⟩:=hf;have hd:=IQ x;refine⟨?_,?_,by show x.size<=_;omega,by show x.deep<=_;omega⟩
 ·show(if x.size<=40 then x.flat else[]).length<=40;split
  ·rw[Bt];assumption
  ·simp
 ·show(if x.size<=40 then x.flat else[]).length<=x.size;split
  ·rw[Bt];exact Nat.le_refl _
  ·simp
set_option maxRecDepth 100000 in
set_option maxHeartbeats 4000000 in
theorem ZV (L:List Tok) (g:Nat) (v:Value) (i d q:Nat) (w:World) (h:Sits L w g v i d) (hl:L.length<=10000) (hd:d<=12) (hq:q<w.heap.size) (hqg:q≠g) (hqc:w.cell? ⟨q,0,none⟩=some (.pointer (some ⟨g,0,none⟩))) (f:Nat) (hf:Gj L f) (r:Res) (hr:Ah L f 1 i d=some r):
  Calls Tryz.prog 264 #[.pointer (some ⟨q,0,none⟩)] w (ED L g v d i (JG L r) w):=by
 have HF:=AA hf;have HR:=AA hr;have hfine:=(Ff L f).1 1 i d r (by omega) (by omega) hr;have HFI:=AA hfine;have hgl:=h.rd.lt;have HB0:=AA ((Below.refl w.heap.size w).alloc (Nat.le_refl _) (.cells #[.slice none 0 0,.int .i64 0,.int .i64 0] 238));have HS0:=AA (h.on HB0.out);have HP0:=AA (GQ w (.slice none 0 0) (.int .i64 0) (.int .i64 0));have HQ0:Hid ((w.alloc (.cells #[.slice none 0 0,.int .i64 0,.int .i64 0] 238)).cell? ⟨q,0,none⟩=some (.pointer (some ⟨g,0,none⟩))):=AA ((HB0.out.cell (p:=⟨q,0,none⟩) hq).trans hqc);clear hf hr hfine h;go_enter Tryz.func264,Tryz.ntmps264;go_wp2_with fail
 refine(HF.out 1 i d r g v _ (by omega) (by omega) hd HR.out HS0.out).mono ?_;rintro e w1 ⟨P,A,n,c,hP,rfl,ho,hS1,hK1⟩;have HP:=AA hP;have HO:=AA ho;have HS1:=AA hS1;have HK1:Hid (Ac g w w1):=AA ((Ac.of HB0.out).trans hK1);have HPD:=AA (HP0.out.keep (by omega) hK1);have HQ1:Hid (w1.cell? ⟨q,0,none⟩=some (.pointer (some ⟨g,0,none⟩))):=AA ((hK1.cell (by simp;omega) hqg).trans HQ0.out);have hsz0:(w.alloc (.cells #[.slice none 0 0,.int .i64 0,.int .i64 0] 238)).heap.size=w.heap.size+1:=by simp
 rw[hsz0]at ho;have HO:=AA ho;have hszk:=hK1.size;rw[hsz0]at hszk;clear hP ho hS1 hK1 hsz0 hqc;cases r with
 |bad e j=>
  obtain⟨p0,p1,p2,p3,p4,p5,p6⟩:=HPD.out;obtain⟨he,_⟩:=HFI.out;have he2:(e != 0)=true:=by rcases he with rfl|rfl|rfl<;>rfl
  clear he;simp only[errOf];go_wp2_with fail
  refine bodyPost_ret (v:=.tuple #[.agg #[.slice none 0 0,.int .i64 0,.int .i64 0],.int .i64 e]) (by simp[results,Tryz.results264,go_sem, *]) rfl ?_;exact ED.on (C0 (P:=⟨[],0,0⟩) (K7 _ _ _) rfl (E8 _ _) (fun b hb=>by simp[Value.ownBlock]at hb) HS1.out HK1.out hgl (Nat.le_refl _)) ((Below.refl _ _).alloc (Nat.le_refl _) _)
 |ok x tq=>
  simp only[errOf];cases hcl:isB L tq [41]with
  |true=>
   have HI:=AA hcl;have HPR:Hid (JG L (.ok x tq)=.ok x (tq+1)):=AA (ZT hcl);clear hcl;go_wp2_with fail
   have hsz1:w1.heap.size<(w1.alloc (.cells #[.slice A n c,.int .i64 P.many,.int .i64 P.deep] 238)).heap.size:=by simp
   have HBZ:=AA ((Below.refl w1.heap.size w1).alloc (Nat.le_refl _) (.cells #[.slice A n c,.int .i64 P.many,.int .i64 P.deep] 238));have HPZ:=AA (GQ w1 (.slice A n c) (.int .i64 P.many) (.int .i64 P.deep));generalize w1.alloc (.cells #[.slice A n c,.int .i64 P.many,.int .i64 P.deep] 238)=Z at *;have HSZ:=AA (HS1.out.on HBZ.out);have HRZ:=AA (HPD.out.on HBZ.out);have hqZ:=(HBZ.out.cell (p:=⟨q,0,none⟩) (by show q<_;omega)).trans HQ1.out;have hg1:=HS1.out.rd.lt;obtain⟨z0,z1,z2,z3,z4,z5,z6⟩:=HPZ.out;have hqz:q<Z.heap.size:=by omega
   go_region_held3 (fun w'=>w'.cell? ⟨w1.heap.size,0,none⟩=some (.slice A n c)/\w'.cell? ⟨w1.heap.size,1,none⟩=some (.int .i64 P.many)/\w'.cell? ⟨w1.heap.size,2,none⟩=some (.int .i64 P.deep)/\w'.cell? ⟨q,0,none⟩=some (.pointer (some ⟨g,0,none⟩)))
    (first|exact⟨z1,z2,z3,hqZ⟩|exact⟨(hK.cell z0 (by omega)).trans z1,(hK.cell z0 (by omega)).trans z2,(hK.cell z0 (by omega)).trans z3,(hK.cell hqz hqg).trans hqZ⟩|exact⟨(G7 (by omega)).trans ((hK.cell z0 (by omega)).trans z1),(G7 (by omega)).trans ((hK.cell z0 (by omega)).trans z2),(G7 (by omega)).trans ((hK.cell z0 (by omega)).trans z3),(G7 (by omega)).trans ((hK.cell hqz hqg).trans hqZ)⟩)
    (first|(go_at_call 265;refine(Wi L g v tq d _ (HSZ.out.on (AD _)) hl HI.out).mono ?_;rintro e w2 ⟨rfl,hS2,hK⟩;obtain⟨p0,p1,p2,p3,p4,p5,p6⟩:=(HRZ.out.on (AD Z)).keep (by omega) hK))
   have hK2:Ac g Z w2:=(Ac.of (AD Z)).trans hK;have HS2:=AA hS2;have HK2:=AA hK2;have HKw:Hid (Ac g w w2):=AA ((HK1.out.andBelow HBZ.out (by omega)).trans hK2);have HOw:Hid (Bn w2 w.heap.size (.slice A n c) P.ns):=AA (((HO.out.on HBZ.out).keep (by omega) hK2).base (by omega));clear hS2 hK2 hK z1 z2 z3 z4 z5 z6 hqZ;go_wp2_with fail
   refine bodyPost_ret (v:=.tuple #[.agg #[.slice A n c,.int .i64 P.many,.int .i64 P.deep],.int .i64 0]) (by simp[results,Tryz.results264,go_sem, *]) rfl ?_;exact C0 (r:=JG L (.ok x tq)) (by rw[HPR.out];exact HP.out) (by rw[HPR.out];rfl) HOw.out (fun b hb=>by have:=(Ba HO.out b hb).1;omega) (by rw[HPR.out];exact HS2.out) HKw.out hgl (Nat.le_refl _)
  |false=>
   have HI:=AA hcl;obtain⟨ee,hee⟩:∃ee:Int,(if L.length<=tq then(6:Int)else 5)=ee:=⟨_,rfl⟩
   have HEE:=AA hee;have HPR:Hid (JG L (.ok x tq)=.bad ee tq):=AA (by rw[QBg hcl,<-hee];rfl);clear hee;have PB:Hid (FZ i (.bad ee tq) P):=AA (by have hp:P=BL x:=HP.out;rw[hp];exact QD5 _ HFI.out);clear hcl;go_wp2_with fail
   have hsz1:w1.heap.size<(w1.alloc (.cells #[.slice A n c,.int .i64 P.many,.int .i64 P.deep] 238)).heap.size:=by simp
   have HBZ:=AA ((Below.refl w1.heap.size w1).alloc (Nat.le_refl _) (.cells #[.slice A n c,.int .i64 P.many,.int .i64 P.deep] 238));have HPZ:=AA (GQ w1 (.slice A n c) (.int .i64 P.many) (.int .i64 P.deep));generalize w1.alloc (.cells #[.slice A n c,.int .i64 P.many,.int .i64 P.deep] 238)=Z at *;have HSZ:=AA (HS1.out.on HBZ.out);have HRZ:=AA (HPD.out.on HBZ.out);have hqZ:=(HBZ.out.cell (p:=⟨q,0,none⟩) (by show q<_;omega)).trans HQ1.out;have hg1:=HS1.out.rd.lt;obtain⟨z0,z1,z2,z3,z4,z5,z6⟩:=HPZ.out;have hqz:q<Z.heap.size:=by omega
   go_region_held3 (fun w'=>w'.cell? ⟨w1.heap.size,0,none⟩=some (.slice A n c)/\w'.cell? ⟨w1.heap.size,1,none⟩=some (.int .i64 P.many)/\w'.cell? ⟨w1.heap.size,2,none⟩=some (.int .i64 P.deep)/\w'.cell? ⟨q,0,none⟩=some (.pointer (some ⟨g,0,none⟩)))
    (first|exact⟨z1,z2,z3,hqZ⟩|exact⟨(hK.cell z0 (by omega)).trans z1,(hK.cell z0 (by omega)).trans z2,(hK.cell z0 (by omega)).trans z3,(hK.cell hqz hqg).trans hqZ⟩|exact⟨(G7 (by omega)).trans ((hK.cell z0 (by omega)).trans z1),(G7 (by omega)).trans ((hK.cell z0 (by omega)).trans z2),(G7 (by omega)).trans ((hK.cell z0 (by omega)).trans z3),(G7 (by omega)).trans ((hK.cell hqz hqg).trans hqZ)⟩)
    (first|(go_at_call 265;refine(ZU L g v tq d ee HEE.out _ (HSZ.out.on (AD _)) HI.out).mono ?_;rintro e w2 ⟨rfl,hS2,hK⟩;obtain⟨p0,p1,p2,p3,p4,p5,p6⟩:=(HRZ.out.on (AD Z)).keep (by omega) hK))
   have hK2:Ac g Z w2:=(Ac.of (AD Z)).trans hK;have HS2:=AA hS2;have HK2:=AA hK2;have HKw:Hid (Ac g w w2):=AA ((HK1.out.andBelow HBZ.out (by omega)).trans hK2);have HOw:Hid (Bn w2 w.heap.size (.slice A n c) P.ns):=AA (((HO.out.on HBZ.out).keep (by omega) hK2).base (by omega));clear hS2 hK2 hK z1 z2 z3 z4 z5 z6 hqZ;go_wp2_with fail
   refine bodyPost_ret (v:=.tuple #[.agg #[.slice A n c,.int .i64 P.many,.int .i64 P.deep],.int .i64 ee]) (by simp[results,Tryz.results264,go_sem, *]) rfl ?_;exact C0 (r:=JG L (.ok x tq)) (by rw[HPR.out];exact PB.out) (by rw[HPR.out];rfl) HOw.out (fun b hb=>by have:=(Ba HO.out b hb).1;omega) (by rw[HPR.out];exact HS2.out) HKw.out hgl (Nat.le_refl _)
set_option maxRecDepth 100000 in
set_option maxHeartbeats 4000000 in
theorem Td (L:List Tok) (g:Nat) (v:Value) (i d:Nat) (w:World) (h:Sits L w g v i d) (hl:L.length<=10000) (hi:i<L.length) (hd:d<12) (q:Nat) (hq:q<w.heap.size) (hqg:q≠g) (hqc:w.cell? ⟨q,0,none⟩=some (.pointer (some ⟨g,0,none⟩))) (f:Nat) (hf:Gj L f) (r:Res) (hr:Ah L f 1 (i+1) (d+1)=some r):
  Calls Tryz.prog 263 #[.pointer (some ⟨g,0,none⟩),.func (.func 264) #[] #[.pointer (some ⟨q,0,none⟩)]] w (ED L g v d (i+1) (JG L r) w):=by
 have HS:=AA h;have HF:=AA hf;have HR:=AA hr;obtain⟨⟨hgl,c0,c1,c2,f1,f2⟩,_,_,_⟩:=h;clear hf hr;have hd2:((d:Int)==12)=false:=beq_eq_false_iff_ne.2 (by omega);go_enter Tryz.func263,Tryz.ntmps263;go_wp2_with fail
 obtain⟨Y,hY,hSY,hPY,hKY⟩:=VJ HS.out;rw[<-hY];have HSY:=AA hSY;have HPY:=AA hPY;have HKY:=AA hKY;have HQY:Hid (Y.cell? ⟨q,0,none⟩=some (.pointer (some ⟨g,0,none⟩))):=AA ((hKY.cell hq hqg).trans hqc);clear hY hSY hPY hKY c0 c1 c2 f1 f2;refine(ZV L g v (i+1) (d+1) q Y HSY.out hl (by omega) (by have:=HKY.out.size;omega) hqg HQY.out f HF.out r HR.out).mono ?_;rintro e w1 ⟨P,A,n,c,hP,rfl,ho,hS1,hK1⟩;have hyl:=HPY.out.lt;have HP:=AA hP;have HO:=AA ho;have HS1:=AA hS1;have HK1:=AA hK1;obtain⟨⟨hg1,c0,c1,c2,f1,f2⟩,_,_,_⟩:=hS1
 obtain⟨p0,p1,p2,p3,p4,p5,p6⟩:=HPY.out.keep (by omega) hK1;clear hP ho hK1;have hne:¬g=w.heap.size:=by omega
 have hne2:¬w.heap.size=g:=by omega
 go_wp2_with fail
 refine bodyPost_ret (v:=.tuple #[.agg #[.slice A n c,.int .i64 P.many,.int .i64 P.deep],.int .i64 (errOf (JG L r))]) (by simp[results,Tryz.results263,go_sem, *]) rfl ?_;refine ED.on (C0 (w5:=w1.setCell ⟨g,2,none⟩ (.int .i64 d)) (rb:=w.heap.size) HP.out rfl (HO.out.keep (by omega) (Ac.refl _ _).set |>.base (by omega)) (fun b hb=>by have:=(Ba HO.out b hb).1;omega) (HS1.out.set2 d) ((HKY.out.trans HK1.out).set) hgl (Nat.le_refl _)) ((Below.refl _ _).alloc (Nat.le_refl _) _)
end Go.Proofs.YthfkpalfopdmhaaGreatDoor
