/- Texts of the walk, packed. -/
import Derived.Test.YthfkpalfopdmhaaGreatDoorW10
import Derived.Test.YthfkpalfopdmhaaGreatDoorW00
namespace Go.Proofs.YthfkpalfopdmhaaGreatDoor
open Go.RowKit
theorem mkf (fn:Fn) (first cap:Array Value) (w:World):(Instr.makeFunc fn first cap).run Tryz.prog w=.ok (.func fn first cap) w:=rfl
theorem QBh {i i':Nat} {r:Res} {P:Prt} (h:FZ i' r P) (hi:i<=i'):FZ i r P:=by
 cases r with
 |ok x tq=>exact h
 |bad e j=>
  obtain⟨h1,h2,h3,h4⟩:=h;exact⟨h1,h2,by omega,by omega⟩
def QBi (L:List Tok) (g:Nat) (v:Value) (d:Nat) (Q:Prt->Prop) (err:Int) (pos:Nat) (w:World) (e:Ending) (w':World):Prop:=
 ∃(P:Prt) (A:Option Addr) (n c:Nat),Q P/\e=.returned (.tuple #[.agg #[.slice A n c,.int .i64 P.many,.int .i64 P.deep],.int .i64 err])/\Bn w' w.heap.size (.slice A n c) P.ns/\Sits L w' g v pos d/\Ac g w w'
set_option maxRecDepth 100000 in
set_option maxHeartbeats 2000000 in
theorem Ox (L:List Tok) (g:Nat) (v fv:Value) (i:Nat) (w:World) (h:Sits L w g v i 12):Calls Tryz.prog 263 #[.pointer (some ⟨g,0,none⟩),fv] w (QBi L g v 12 (fun P=>P=⟨[],0,0⟩) 7 i w):=by
 have HS:=AA h;obtain⟨⟨hgl,c0,c1,c2,f1,f2⟩,_,_,_⟩:=h;go_enter Tryz.func263,Tryz.ntmps263;go_wp2_with fail
 refine bodyPost_ret (v:=.tuple #[.agg #[.slice none 0 0,.int .i64 0,.int .i64 0],.int .i64 7]) (by simp[results,Tryz.results263,go_sem, *]) rfl ?_;have hb:=(Below.refl w.heap.size w).alloc (Nat.le_refl _) (.cells #[.slice none 0 0,.int .i64 0,.int .i64 0] 238);exact⟨⟨[],0,0⟩,_,_,_,rfl,rfl,E8 _ _,HS.out.on hb,Ac.of hb⟩
theorem J7 {L:List Tok} {g:Nat} {v:Value} {i d:Nat} {w:World} (h:Sits L w g v i d):
  ∃W,W=(w.alloc (.cells #[.pointer (some ⟨g,0,none⟩)] 234)).alloc (.cells #[.slice none 0 0,.int .i64 0,.int .i64 0] 238)/\Sits L W g v i d/\W.cell? ⟨w.heap.size,0,none⟩=some (.pointer (some ⟨g,0,none⟩))/\Pd W (w.heap.size+1) (.slice none 0 0) (.int .i64 0) (.int .i64 0)/\Below w.heap.size w W/\w.heap.size+1<W.heap.size:=by
 have b1:=(Below.refl w.heap.size w).alloc (Nat.le_refl _) (.cells #[.pointer (some ⟨g,0,none⟩)] 234);have c1:(w.alloc (.cells #[.pointer (some ⟨g,0,none⟩)] 234)).cell? ⟨w.heap.size,0,none⟩=some (.pointer (some ⟨g,0,none⟩)):=by simp
 have s1:(w.alloc (.cells #[.pointer (some ⟨g,0,none⟩)] 234)).heap.size=w.heap.size+1:=by simp
 generalize w.alloc (.cells #[.pointer (some ⟨g,0,none⟩)] 234)=w1 at *;have b2:=(Below.refl w1.heap.size w1).alloc (Nat.le_refl _) (.cells #[.slice none 0 0,.int .i64 0,.int .i64 0] 238);refine⟨_,rfl,(h.on b1).on b2,(b2.cell (p:=⟨w.heap.size,0,none⟩) (by show w.heap.size<_;omega)).trans c1,?_,AC b1 b2,by simp;omega⟩;have:=GQ w1 (.slice none 0 0) (.int .i64 0) (.int .i64 0)
 rwa [s1]at this
theorem QBj {W w1 w2:World} {a q:Nat} {x y z:Value} (ha:a<W.heap.size) (hq:q<W.heap.size) (h:w1.cell? ⟨q,0,none⟩=some z/\w1.cell? ⟨a,0,none⟩=some x/\w1.cell? ⟨a,1,none⟩=some y/\Below W.heap.size W w1) (hb:Below w1.heap.size w1 w2):
  w2.cell? ⟨q,0,none⟩=some z/\w2.cell? ⟨a,0,none⟩=some x/\w2.cell? ⟨a,1,none⟩=some y/\Below W.heap.size W w2:=by
 have hz:=h.2.2.2.size;exact⟨(hb.cell (p:=⟨q,0,none⟩) (by show q<_;omega)).trans h.1,(hb.cell (p:=⟨a,0,none⟩) (by show a<_;omega)).trans h.2.1,(hb.cell (p:=⟨a,1,none⟩) (by show a<_;omega)).trans h.2.2.1,AC h.2.2.2 hb⟩
set_option maxRecDepth 100000 in
set_option maxHeartbeats 4000000 in
theorem NK (L:List Tok) (g:Nat) (v:Value) (i d:Nat) (w:World) (h:Sits L w g v i d) (ho:isB L i [40]=true) (r:Res)
  (hin:∀(q:Nat) (W:World),Sits L W g v i d->q<W.heap.size->q≠g->W.cell? ⟨q,0,none⟩=some (.pointer (some ⟨g,0,none⟩))->Calls Tryz.prog 263 #[.pointer (some ⟨g,0,none⟩),.func (.func 264) #[] #[.pointer (some ⟨q,0,none⟩)]] W (ED L g v d i r W)):
  Calls Tryz.prog 236 #[.pointer (some ⟨g,0,none⟩)] w (ED L g v d i r w):=by
 have HIN:=AA hin;have HI:=AA ho;have hgl:=h.rd.lt;have hmk:=mkf;obtain⟨W,hW,hS,hq,hP,hB,hz⟩:=J7 h;have HW:=AA hW;have HS:=AA hS;have HP:=AA hP;have HB:=AA hB;obtain⟨⟨hg1,c0,c1,_,_,_⟩,_,_,_⟩:=hS;clear hin ho h hP hB hW;go_enter Tryz.func236,Tryz.ntmps236;go_wp2_with fail
 rw[<-HW.out];clear HW;have hqz:w.heap.size<W.heap.size:=by omega
 go_region_held3 (fun w'=>w'.cell? ⟨w.heap.size,0,none⟩=some (.pointer (some ⟨g,0,none⟩))/\w'.cell? ⟨g,0,none⟩=some v/\w'.cell? ⟨g,1,none⟩=some (.int .i64 i)/\Below W.heap.size W w')
  (first|exact⟨hq,c0,c1,Below.refl _ _⟩|exact⟨hq,c0,c1,AD _⟩|exact QBj (w1:=W.drew) hg1 hqz ⟨hq,c0,c1,AD _⟩ hb1)
  (first|(go_at_call 77;refine(GG (s:=[40]) HI.out v _ (HS.out.on (AD _)).read).mono ?_;rintro e w1 ⟨rfl,hb1⟩))
 have hbw:=AC (AD W) hb1;have HBW:=AA hbw;have HS1:=AA (HS.out.on hbw);have HP1:=AA (HP.out.on hbw);have hq1:=(hbw.cell (p:=⟨w.heap.size,0,none⟩) hqz).trans hq;have hz1:w.heap.size+1<w1.heap.size:=by have:=hbw.size;omega
 clear hb1 hbw c0 c1 hq;go_wp2_with fail
 refine(HIN.out w.heap.size w1 HS1.out (by omega) (by omega) hq1).mono ?_;rintro e w2 ⟨P,A,n,c,hPr,rfl,hown,hS2,hK2⟩;have HPr:=AA hPr;have HO:=AA hown;have HS2:=AA hS2;have HK:Hid (Ac g w w2):=AA ((Ac.of (AC HB.out HBW.out)).trans hK2);obtain⟨p0,p1,p2,p3,p4,p5,p6⟩:=HP1.out.keep (by omega) hK2;clear hPr hown hS2 hK2 hq1;go_wp2_with fail
 refine bodyPost_ret (v:=.tuple #[.agg #[.slice A n c,.int .i64 P.many,.int .i64 P.deep],.int .i64 (errOf r)]) (by simp[results,Tryz.results236,go_sem, *]) rfl ?_;exact C0 (rb:=w.heap.size+1) HPr.out rfl (HO.out.base (by omega)) (fun b hb=>by have:=(Ba HO.out b hb).1;omega) HS2.out HK.out (by omega) (by omega)
set_option maxRecDepth 100000 in
set_option maxHeartbeats 4000000 in
theorem VK (L:List Tok) (g:Nat) (v:Value) (i d:Nat) (w:World) (h:Sits L w g v i d) (hl:L.length<=10000) (hsm:Gf L) (ho:isB L i [40]=false) (hsg:Aw L 6 i=0):
  Calls Tryz.prog 236 #[.pointer (some ⟨g,0,none⟩)] w (ED L g v d i (Fe L i) w):=by
 have HSG:=AA hsg;have HSM:=AA hsm;clear hsg hsm;have HI:=AA ho;have hgl:=h.rd.lt;have hmk:=mkf;obtain⟨W,hW,hS,hq,hP,hB,hz⟩:=J7 h;have HW:=AA hW;have HS:=AA hS;have HP:=AA hP;have HB:=AA hB;obtain⟨⟨hg1,c0,c1,_,_,_⟩,_,_,_⟩:=hS;clear ho h hP hB hW;go_enter Tryz.func236,Tryz.ntmps236;go_wp2_with fail
 rw[<-HW.out];clear HW;have hqz:w.heap.size<W.heap.size:=by omega
 go_region_held3 (fun w'=>w'.cell? ⟨w.heap.size,0,none⟩=some (.pointer (some ⟨g,0,none⟩))/\w'.cell? ⟨g,0,none⟩=some v/\w'.cell? ⟨g,1,none⟩=some (.int .i64 i)/\Below W.heap.size W w')
  (first|exact⟨hq,c0,c1,Below.refl _ _⟩|exact⟨hq,c0,c1,AD _⟩|exact QBj (w1:=W.drew) hg1 hqz ⟨hq,c0,c1,AD _⟩ hb1)
  (first|(go_at_call 77;refine(GG (s:=[40]) HI.out v _ (HS.out.on (AD _)).read).mono ?_;rintro e w1 ⟨rfl,hb1⟩))
 have hbw:=AC (AD W) hb1;have HBW:=AA hbw;have HS1:=AA (HS.out.on hbw);have HP1:=AA (HP.out.on hbw);have hq1:=(hbw.cell (p:=⟨w.heap.size,0,none⟩) hqz).trans hq;have hz1:w.heap.size+1<w1.heap.size:=by have:=hbw.size;omega
 clear hb1 hbw c0 c1 hq;go_wp2_with fail
 refine(NH L g v i d 6 _ HS1.out).mono ?_;rw[HSG.out];rintro e w2 ⟨rfl,hb2⟩;have HB2:=AA (AC HB.out (AC HBW.out hb2));have HS2:=AA (HS1.out.on hb2);have HP2:=AA (HP1.out.on hb2);have hq2:=(hb2.cell (p:=⟨w.heap.size,0,none⟩) (by show w.heap.size<_;omega)).trans hq1;have hz2:w.heap.size+1<w2.heap.size:=by have:=hb2.size;omega
 clear hb2 hq1;go_wp2_with fail
 refine(QBf L g v i d _ HS2.out hl HSM.out).mono ?_;rintro e w3 ⟨P,A,n,c,hPr,rfl,hown,hS3,hK3⟩;have HPr:=AA hPr;have HO:=AA hown;have HS3:=AA hS3;have HK:Hid (Ac g w w3):=AA ((Ac.of HB2.out).trans hK3);obtain⟨p0,p1,p2,p3,p4,p5,p6⟩:=HP2.out.keep (by omega) hK3;clear hPr hown hS3 hK3 hq2;generalize Fe L i=r at *;go_wp2_with fail
 refine bodyPost_ret (v:=.tuple #[.agg #[.slice A n c,.int .i64 P.many,.int .i64 P.deep],.int .i64 (errOf r)]) (by simp[results,Tryz.results236,go_sem, *]) rfl ?_;exact C0 (rb:=w.heap.size+1) HPr.out rfl (HO.out.base (by omega)) (fun b hb=>by have:=(Ba HO.out b hb).1;omega) HS3.out HK.out (by omega) (by omega)
theorem Nd.keep {g b:Nat} {w w':World} {x0 x1 x2 x3:Value} (h:Nd w b x0 x1 x2 x3) (hb:b≠g) (hk:Ac g w w'):Nd w' b x0 x1 x2 x3:=
 ⟨Nat.lt_of_lt_of_le h.lt hk.size,(hk.cell h.lt hb).trans h.c0,(hk.cell h.lt hb).trans h.c1,(hk.cell h.lt hb).trans h.c2,(hk.cell h.lt hb).trans h.c3,(hk.frozen h.lt hb).trans h.f0,(hk.frozen h.lt hb).trans h.f1,(hk.frozen h.lt hb).trans h.f2⟩
theorem QBk {w:World} {B:Nat} {P:Prt} {A:Option Addr} {n c:Nat} (ho:Bn w B (.slice A n c) P.ns):
  ∃J,J=(w.alloc (.cells #[.slice A n c,.int .i64 P.many,.int .i64 P.deep] 238)).alloc (.cells #[.slice A n c,.int .i64 P.many,.int .i64 P.deep] 238)/\QL J (.slice (some ⟨w.heap.size+1,0,none⟩) 1 1) [P]/\Below w.heap.size w J:=by
 have b1:=(Below.refl w.heap.size w).alloc (Nat.le_refl _) (.cells #[.slice A n c,.int .i64 P.many,.int .i64 P.deep] 238);have s1:(w.alloc (.cells #[.slice A n c,.int .i64 P.many,.int .i64 P.deep] 238)).heap.size=w.heap.size+1:=by simp
 generalize w.alloc (.cells #[.slice A n c,.int .i64 P.many,.int .i64 P.deep] 238)=w1 at *;have b2:=(Below.refl w1.heap.size w1).alloc (Nat.le_refl _) (.cells #[.slice A n c,.int .i64 P.many,.int .i64 P.deep] 238);have hp:=GQ w1 (.slice A n c) (.int .i64 P.many) (.int .i64 P.deep);rw[s1]at hp;refine⟨_,rfl,⟨_,_,rfl,Nat.le_refl _,fun i p hi=>?_⟩,AC b1 b2⟩
 match i,hi with
 |0,hi=>
  simp at hi;subst hi;exact⟨_,_,rfl,hp.lt,hp.c0,hp.c1,hp.c2,(ho.on (AC b1 b2)).lies⟩
def unR (a:Nod):Res->Res
 |.ok x tq=>.ok (.un a x) tq
 |.bad e j=>.bad e j
set_option maxRecDepth 100000 in
set_option maxHeartbeats 4000000 in
theorem SD (L:List Tok) (g:Nat) (v:Value) (i d k:Nat) (w:World) (h:Sits L w g v i d) (ho:isB L i [40]=false) (hsg:Aw L 6 i=k) (hk:k≠0) (r:Res) (Q:Prt->Prop)
  (hin:∀(W:World),Sits L W g v i d->Calls Tryz.prog 263 #[.pointer (some ⟨g,0,none⟩),.func (.func 236) #[.pointer (some ⟨g,0,none⟩)] #[]] W (QBi L g v d Q (errOf r) (GY r) W))
  (hfit:∀P,Q P->QK P/\FZ i (unR ⟨k,0,[],plAt L i⟩ r) (FA ⟨k,0,[],plAt L i⟩ [P])):
  Calls Tryz.prog 236 #[.pointer (some ⟨g,0,none⟩)] w (ED L g v d i (unR ⟨k,0,[],plAt L i⟩ r) w):=by
 have hlt:=GB (L:=L) (b:=6) (i:=i) (by rw[hsg];exact hk);have hk0:((k:Int)==0)=false:=beq_eq_false_iff_ne.2 (by omega);have HSG:=AA hsg;have HIN:=AA hin;have HFIT:=AA hfit;have hat:L[i]?=some L[i]:=List.getElem?_eq_getElem hlt;generalize L[i]=t at *;have HPL:Hid (plAt L i=t.pl):=AA (by unfold plAt;rw[hat]);have HAT:=AA hat;clear hsg hin hfit hat;have HI:=AA ho;have hgl:=h.rd.lt;have hmk:=mkf;obtain⟨W,hW,hS,hq,hP,hB,hz⟩:=J7 h;have HW:=AA hW;have HS:=AA hS;have HP:=AA hP;have HB:=AA hB;obtain⟨⟨hg1,c0,c1,_,_,_⟩,_,_,_⟩:=hS;clear ho h hP hB hW
 go_enter Tryz.func236,Tryz.ntmps236;go_wp2_with fail
 rw[<-HW.out];clear HW;have hqz:w.heap.size<W.heap.size:=by omega
 go_region_held3 (fun w'=>w'.cell? ⟨w.heap.size,0,none⟩=some (.pointer (some ⟨g,0,none⟩))/\w'.cell? ⟨g,0,none⟩=some v/\w'.cell? ⟨g,1,none⟩=some (.int .i64 i)/\Below W.heap.size W w')
  (first|exact⟨hq,c0,c1,Below.refl _ _⟩|exact⟨hq,c0,c1,AD _⟩|exact QBj (w1:=W.drew) hg1 hqz ⟨hq,c0,c1,AD _⟩ hb1)
  (first|(go_at_call 77;refine(GG (s:=[40]) HI.out v _ (HS.out.on (AD _)).read).mono ?_;rintro e w1 ⟨rfl,hb1⟩))
 have hbw:=AC (AD W) hb1;have HBW:=AA hbw;have HS1:=AA (HS.out.on hbw);have HP1:=AA (HP.out.on hbw);have hq1:=(hbw.cell (p:=⟨w.heap.size,0,none⟩) hqz).trans hq;have hz1:w.heap.size+1<w1.heap.size:=by have:=hbw.size;omega
 clear hb1 hbw c0 c1 hq;go_wp2_with fail
 refine(NH L g v i d 6 _ HS1.out).mono ?_;rw[HSG.out];rintro e w2 ⟨rfl,hb2⟩;have HB2:=AA (AC HB.out (AC HBW.out hb2));have HS2:=AA (HS1.out.on hb2);have HP2:=AA (HP1.out.on hb2);have hq2:=(hb2.cell (p:=⟨w.heap.size,0,none⟩) (by show w.heap.size<_;omega)).trans hq1;have hz2:w.heap.size+1<w2.heap.size:=by have:=hb2.size;omega
 clear hb2 hq1;obtain⟨⟨hg2,c0,c1,c2,f1,f2⟩,⟨A0,cc,hv0,hcc,hr0⟩,_,_⟩:=HS2.out;obtain⟨b,rfl,hbg,x0,x1,x2,x3⟩:=hr0 i t HAT.out;subst hv0;clear hr0 c2 f1 f2 x0 x1 x2;have hi0:(0:Int)<=(i:Int):=by omega
 have hi1:(i:Int)<(L.length:Int):=by omega
 have n0:=World.new_ne w2 _ c0;have n1:=World.new_ne w2 _ c1;have m3:=World.new_ne w2 _ x3;have q3:=World.new_ne w2 _ hq2;go_wp2_with fail
 go_region_held3 (fun w'=>w'.cell? ⟨w.heap.size,0,none⟩=some (.pointer (some ⟨g,0,none⟩))/\w'.cell? ⟨g,0,none⟩=some (.slice (some ⟨b,0,none⟩) L.length cc)/\w'.cell? ⟨g,1,none⟩=some (.int .i64 i)/\w'.cell? ⟨b,i*4+3,none⟩=some (.int .i64 t.pl))
  (first|exact⟨hq2,c0,c1,x3⟩|go_keep)
  (fail)
 have hN:=Tc w2 (.int .i64 k) (.int .i64 0) (.string ⟨#[]⟩) (.int .i64 t.pl) 46;have hBn:=((Below.refl w2.heap.size w2).alloc (Nat.le_refl _) (.cells #[.int .i64 k,.int .i64 0,.string ⟨#[]⟩,.int .i64 t.pl] 46)).trans (EE _ _);replace hN:=hN.on (EE _ _);clear n0 n1 m3 q3 c0 c1 x3 hi0 hi1;generalize hZ:(w2.alloc (.cells #[.int .i64 k,.int .i64 0,.string ⟨#[]⟩,.int .i64 t.pl] 46)).drew=Z at *;clear hZ;have HSZ:=AA (HS2.out.on hBn);have HPZ:=AA (HP2.out.on hBn);have HBZ:=AA (AC HB2.out hBn);have HNZ:=AA hN;have hqZ:=(hBn.cell (p:=⟨w.heap.size,0,none⟩) (by show w.heap.size<_;omega)).trans hq2;have hzn:=hN.lt
 clear hN hBn hq2;go_wp2_with fail
 refine(HIN.out Z HSZ.out).mono ?_;rintro e w3 ⟨P,A,n,c,hPr,rfl,hown,hS3,hK3⟩;have HPr:=AA hPr;have HO:=AA hown;have HS3:=AA hS3;have HK:Hid (Ac g w w3):=AA ((Ac.of HBZ.out).trans hK3);have HP3:=AA (HPZ.out.keep (by omega) hK3);have hN3:=HNZ.out.keep (by omega) hK3;have hz3:w2.heap.size<w3.heap.size:=by have:=hK3.size;omega
 obtain⟨y0,y1,y2,y3,y4,_,_,_⟩:=hN3;clear hPr hown hS3 hK3 hqZ;go_wp2_with fail
 obtain⟨J,hJ,hRJ,hBJ⟩:=QBk (P:=P) HO.out;rw[<-hJ];have HRJ:=AA hRJ;have HBJ:=AA hBJ;clear hJ hRJ hBJ y0 y1 y2 y3 y4;have hfits:=(HFIT.out P HPr.out).1;have HFT:=AA hfits;clear hfits;refine(NI ⟨k,0,[],t.pl⟩ _ [P] J HRJ.out (by simp) (by intro p hp;simp at hp;subst hp;exact HFT.out)).mono ?_;rintro e w5 ⟨u,rfl,ho5,hb5⟩;obtain⟨A5,n5,c5,rfl⟩:=Eh ho5;have HO5:=AA ho5;have hb35:=AC HBJ.out hb5;have HB5:=AA hb35;obtain⟨p0,p1,p2,p3,p4,p5,p6⟩:=HP3.out.on hb35;have hJz:=HBJ.out.size;clear ho5 hb5 hb35;have HE:Hid (errOf (unR ⟨k,0,[],plAt L i⟩ r)=errOf r):=AA (by cases r<;>rfl)
 have HPo:Hid (GY (unR ⟨k,0,[],plAt L i⟩ r)=GY r):=AA (by cases r<;>rfl);have hfp:=(HFIT.out P HPr.out).2;rw[show FA ⟨(k:Int),0,[],plAt L i⟩ [P]=FA ⟨(k:Int),0,[],(t.pl:Int)⟩ [P]from by rw[HPL.out]]at hfp;have HFP:=AA hfp;clear hfp;generalize FA ⟨(k:Int),0,[],(t.pl:Int)⟩ [P]=P' at *;go_wp2_with fail
 refine bodyPost_ret (v:=.tuple #[.agg #[.slice A5 n5 c5,.int .i64 P'.many,.int .i64 P'.deep],.int .i64 (errOf r)]) (by simp[results,Tryz.results236,go_sem, *]) rfl ?_;exact C0 (rb:=w.heap.size+1) HFP.out HE.out.symm (HO5.out.base (by omega)) (fun b hb=>by have:=(Ba HO5.out b hb).1;omega) (by rw[HPo.out];exact HS3.out.on HB5.out) (HK.out.andBelow HB5.out HK.out.size) (by omega) (by omega)
theorem ZW (P:Prt):EB [P]=P.many+1:=by simp[EB];omega
theorem ZX (P:Prt):EC [P]=max 1 (P.deep+1):=by simp[EC]
theorem QD6 {L:List Tok} {i:Nat} {a:Nod} {r:Res} (hl:L.length<=10000) (hi:i<L.length) (hf:Py L (i+1) r):∀P,FZ (i+1) r P->QK P/\FZ i (unR a r) (FA a [P]):=by
 intro P hP;cases r with
 |ok x tq=>
  obtain rfl:P=BL x:=hP;obtain⟨h1,h2,h3,h4,h5⟩:=hf;exact⟨Ta (by omega),QD4 a x⟩
 |bad e j=>
  obtain⟨_,g1,g2⟩:=hf;obtain⟨h1,h2,h3,h4⟩:=hP;refine⟨⟨h1,by omega,by omega⟩,?_⟩;show(FA a [P]).ns.length<=40/\(FA a [P]).ns.length<=EB [P]/\EB [P]<=j-i+1/\EC [P]<=j-i+1;have e1:(FA a [P]).ns=if EB [P]<=40 then Ht a [P]else[]:=rfl
  have e2:(Ht a [P]).length=P.ns.length+1:=by simp[Ht]
  rw[e1,ZX];rw[ZW]at *;split
  ·rw[e2];omega
  ·simp;omega
theorem VL (L:List Tok) (f:Nat) (hl:L.length<=10000) (hsm:Gf L) (hc:Gj L f) (hs:Gi L f):Gi L (f+1):=by
 intro i d r g v w hd hr h;rw[BU]at hr;cases ho:isB L i [40]with
 |true=>
  have hlt:=Bl ho;rw[ho,if_pos rfl]at hr;by_cases h12:d=12
  ·subst h12;rw[if_pos rfl]at hr;simp at hr;subst hr;refine NK L g v i 12 w h ho _ (fun q W hS _ _ _=>?_);refine(Ox L g v _ i W hS).mono ?_;rintro e w' ⟨P,A,n,c,hq,h1,h2,h3,h4⟩;exact⟨P,A,n,c,by rw[hq];exact K7 _ _ _,h1,h2,h3,h4⟩
  ·rw[if_neg h12]at hr;cases hch:Ah L f 1 (i+1) (d+1)with
   |none=>rw[hch]at hr;cases hr
   |some r1=>
    have e:r=JG L r1:=by
     rw[hch]at hr;cases r1 with
     |ok x tq=>
      simp only at hr;show r=if isB L tq [41]=true then Res.ok x (tq+1)else Ic L tq
      split at hr
      ·simp at hr;rw[if_pos (by assumption)];exact hr.symm
      ·simp at hr;rw[if_neg (by assumption)];exact hr.symm
     |bad e j=>simp at hr;exact hr.symm
    subst e;refine NK L g v i d w h ho _ (fun q W hS hq hqg hqc=>?_);refine(Td L g v i d W hS hl hlt (by omega) q hq hqg hqc f hc r1 hch).mono ?_;rintro e w' ⟨P,A,n,c,h0,h1,h2,h3,h4⟩;exact⟨P,A,n,c,QBh h0 (by omega),h1,h2,h3,h4⟩
 |false=>
  rw[ho,if_neg (by simp)]at hr;by_cases hsg:Aw L 6 i=0
  ·rw[if_pos hsg]at hr;simp at hr;subst hr;exact VK L g v i d w h hl hsm ho hsg
  ·have hlt:=GB hsg;rw[if_neg hsg]at hr;by_cases h12:d=12
   ·subst h12;rw[if_pos rfl]at hr;simp at hr;subst hr;refine SD L g v i 12 (Aw L 6 i) w h ho rfl hsg (.bad 7 i) (fun P=>P=⟨[],0,0⟩) (fun W hS=>Ox L g v _ i W hS) (fun P hP=>?_);subst hP;refine⟨⟨by simp,by simp,by simp⟩,?_⟩;show(FA _ [⟨[],0,0⟩]).ns.length<=40/\(FA _ [⟨[],0,0⟩]).ns.length<=1/\1<=i-i+1/\1<=i-i+1;refine⟨by show(1:Nat)<=40;omega,Nat.le_refl _,by omega,by omega⟩
   ·rw[if_neg h12]at hr;cases hch:BU L f (i+1) (d+1)with
    |none=>rw[hch]at hr;cases hr
    |some r1=>
     have e:r=unR (signN L 6 i) r1:=by
      rw[hch]at hr;cases r1 with
      |ok x tq=>simp at hr;exact hr.symm
      |bad e j=>simp at hr;exact hr.symm
     subst e;have hfine:=(Ff L f).2.2 _ _ _ hch;exact SD L g v i d (Aw L 6 i) w h ho rfl hsg r1 (FZ (i+1) r1) (fun W hS=>RZ L g v i d W hS hl hlt (by omega) f hs r1 hch) (fun P hP=>QD6 hl hlt hfine P hP)
set_option maxRecDepth 100000 in
set_option maxHeartbeats 4000000 in
theorem ZY (L:List Tok) (f:Nat) (hs:Gi L f) (i d:Nat) (r:Res) (g:Nat) (v:Value) (w:World) (hd:d<=12) (hr:BU L f i d=some r) (h:Sits L w g v i d):
  Calls Tryz.prog 218 #[.pointer (some ⟨g,0,none⟩),.int .i64 6] w (ED L g v d i r w):=by
 have HF:=AA hs;have HR:=AA hr;have hgl:=h.rd.lt;have hb0:=(Below.refl w.heap.size w).alloc (Nat.le_refl _) (.cells #[.slice none 0 0,.int .i64 0,.int .i64 0] 238);have HB0:=AA hb0;have HS0:=AA (h.on hb0);have HP0:=AA (GQ w (.slice none 0 0) (.int .i64 0) (.int .i64 0));clear hs hr h hb0;go_enter Tryz.func218,Tryz.ntmps218;go_wp2_with fail
 refine(HF.out i d r g v _ hd HR.out HS0.out).mono ?_;rintro e w1 ⟨P,A,n,c,hP,rfl,ho,hS1,hK1⟩;have HP:=AA hP;have HO:Hid (Bn w1 (w.heap.size+1) (.slice A n c) P.ns):=AA (by simpa using ho);have HS1:=AA hS1;have HK1:Hid (Ac g w w1):=AA ((Ac.of HB0.out).trans hK1);obtain⟨p0,p1,p2,p3,p4,p5,p6⟩:=HP0.out.keep (by omega) hK1;clear hP ho hS1 hK1;go_wp2_with fail
 refine bodyPost_ret (v:=.tuple #[.agg #[.slice A n c,.int .i64 P.many,.int .i64 P.deep],.int .i64 (errOf r)]) (by simp[results,Tryz.results218,go_sem, *]) rfl ?_;exact C0 (rb:=w.heap.size) HP.out rfl (HO.out.base (by omega)) (fun b hb=>by have:=(Ba HO.out b hb).1;omega) HS1.out HK1.out hgl (Nat.le_refl _)
def QBl (g:Nat) (w:World):Nat:=match w.cell? ⟨g,1,none⟩with
 |some (.int _ z)=>z.toNat
 |_=>0
theorem VM {L:List Tok} {w:World} {g:Nat} {v:Value} {i d:Nat} (h:Sits L w g v i d):QBl g w=i:=by
 unfold QBl;rw[h.rd.c1];simp
def QBm (L:List Tok) (f b:Nat) (i d:Nat) (g:Nat) (v:Value) (R:Res) (w:World) (lb:Nat) (E:Int) (wr:World):Prop:=
 ∃(P:Prt) (A:Option Addr) (n c pos:Nat),Pd wr lb (.slice A n c) (.int .i64 P.many) (.int .i64 P.deep)/\Bn wr (w.heap.size+1) (.slice A n c) P.ns/\(∀k,(Value.slice A n c).ownBlock=some k->k≠lb)/\Pd wr w.heap.size (.slice none 0 0) (.int .i64 0) (.int .i64 0)/\Sits L wr g v pos d/\Ac g w wr/\
  ((E=0/\∃f' x,f'<=f/\P=BL x/\Rn L i x pos/\Dw L f' b x pos d=some R)\/(E≠0/\R=.bad E pos/\FZ i R P))
def Goes (L:List Tok) (f b d:Nat) (R:Res):Res->Prop
 |.ok x tq=>Dw L f b x tq d=some R
 |.bad e j=>R=.bad e j
theorem VN {L:List Tok} {f b i d g:Nat} {v:Value} {r1 R:Res} {w w1:World} {P:Prt} {A:Option Addr} {n c:Nat} (hP:FZ i r1 P) (ho:Bn w1 (w.heap.size+1) (.slice A n c) P.ns) (hS:Sits L w1 g v (GY r1) d) (hK:Ac g w w1) (hp:Pd w1 w.heap.size (.slice none 0 0) (.int .i64 0) (.int .i64 0)) (hR:Goes L f b d R r1) (hf:Py L i r1):
  QBm L f b i d g v R w w1.heap.size (errOf r1) (w1.alloc (.cells #[.slice A n c,.int .i64 P.many,.int .i64 P.deep] 238)):=by
 have hb:=(Below.refl w1.heap.size w1).alloc (Nat.le_refl _) (.cells #[.slice A n c,.int .i64 P.many,.int .i64 P.deep] 238);refine⟨P,A,n,c,GY r1,GQ w1 _ _ _,ho.on hb,fun k hk=>?_,hp.on hb,hS.on hb,hK.andBelow hb hK.size,?_⟩
 ·have:=(Ba ho k hk).2;omega
 ·cases r1 with
  |ok x tq=>exact .inl ⟨rfl,f,x,Nat.le_refl _,hP,hf,hR⟩
  |bad e j=>
   obtain⟨he,_⟩:=hf;have hR':R=.bad e j:=hR;subst hR';exact .inr ⟨by show e≠0;omega,rfl,hP⟩
theorem OL {L:List Tok} {i d g:Nat} {v:Value} {R:Res} {w wr:World} {P:Prt} {A:Option Addr} {n c:Nat} {x y z:Value} (hP:FZ i R P) (ho:Bn wr (w.heap.size+1) (.slice A n c) P.ns) (hS:Sits L wr g v (GY R) d) (hK:Ac g w wr) (hg:g<w.heap.size) {E:Int} (hE:E=errOf R):
  ED L g v d i R w (.returned (.tuple #[.agg #[.slice A n c,.int .i64 P.many,.int .i64 P.deep],.int .i64 E])) (((wr.setCell ⟨w.heap.size,0,none⟩ x).setCell ⟨w.heap.size,1,none⟩ y).setCell ⟨w.heap.size,2,none⟩ z):=
 C0 (rb:=w.heap.size) hP hE (ho.base (by omega)) (fun b hb=>by have:=(Ba ho b hb).1;omega) hS hK hg (Nat.le_refl _)
def ZZ (a:Nod) (x:Ex):Res->Res
 |.ok y tq=>.ok (.bin a x y) tq
 |.bad e j=>.bad e j
theorem QBn {L:List Tok} {i pos:Nat} {a:Nod} {x:Ex} {r:Res} (hl:L.length<=10000) (hx:Rn L i x pos) (hp:pos<L.length) (hf:Py L (pos+1) r):∀P,FZ (pos+1) r P->QK P/\FZ i (ZZ a x r) (FA a [BL x,P]):=by
 intro P hP;obtain⟨k1,k2,k3,k4,k5⟩:=hx;cases r with
 |ok y tq=>
  obtain rfl:P=BL y:=hP;obtain⟨h1,h2,h3,h4,h5⟩:=hf;exact⟨Ta (by omega),QBe a x y⟩
 |bad e j=>
  obtain⟨_,g1,g2⟩:=hf;obtain⟨h1,h2,h3,h4⟩:=hP;refine⟨⟨h1,by omega,by omega⟩,?_⟩;show(FA a [BL x,P]).ns.length<=40/\(FA a [BL x,P]).ns.length<=EB [BL x,P]/\EB [BL x,P]<=j-i+1/\EC [BL x,P]<=j-i+1;have e1:(FA a [BL x,P]).ns=if EB [BL x,P]<=40 then Ht a [BL x,P]else[]:=rfl
  have e2:(Ht a [BL x,P]).length=(BL x).ns.length+P.ns.length+1:=by simp[Ht]
  have e3:EB [BL x,P]=x.size+P.many+1:=by simp[EB,BL];omega
  have e4:EC [BL x,P]=max (max 1 (x.deep+1)) (P.deep+1):=by simp[EC,BL]
  have e5:(BL x).ns.length<=x.size:=by
   show(if x.size<=40 then x.flat else[]).length<=x.size;split
   ·rw[Bt];exact Nat.le_refl _
   ·simp
  have hd:=IQ x;rw[e1,e4];rw[e3]at *;split
  ·rw[e2];omega
  ·simp;omega
theorem Tf {L:List Tok} {g:Nat} {v:Value} {pos d:Nat} {Z:World} (h:Sits L Z g v pos d):
  ∃Y,Y=(Z.setCell ⟨g,1,none⟩ (.int .i64 ((pos:Int)+1))).alloc (.cells #[.slice none 0 0,.int .i64 0,.int .i64 0] 238)/\Sits L Y g v (pos+1) d/\Pd Y Z.heap.size (.slice none 0 0) (.int .i64 0) (.int .i64 0)/\Ac g Z Y/\Z.heap.size<Y.heap.size:=by
 refine⟨_,rfl,?_,?_,?_,by simp⟩
 ·exact(h.set1 (pos+1)).on ((Below.refl _ _).alloc (Nat.le_refl _) _)
 ·have:=GQ (Z.setCell ⟨g,1,none⟩ (.int .i64 ((pos:Int)+1))) (.slice none 0 0) (.int .i64 0) (.int .i64 0);simpa using this
 ·exact((Ac.refl g Z).set).andBelow ((Below.refl _ _).alloc (Nat.le_refl _) _) (by simp)
theorem Za {w:World} {B B2:Nat} {P P2:Prt} {A A2:Option Addr} {n c n2 c2:Nat} (ho:Bn w B (.slice A n c) P.ns) (ho2:Bn w B2 (.slice A2 n2 c2) P2.ns):
  ∃J,J=w.alloc (.cells #[.slice A n c,.int .i64 P.many,.int .i64 P.deep,.slice A2 n2 c2,.int .i64 P2.many,.int .i64 P2.deep] 238)/\QL J (.slice (some ⟨w.heap.size,0,none⟩) 2 2) [P,P2]/\Below w.heap.size w J:=by
 have b1:=(Below.refl w.heap.size w).alloc (Nat.le_refl _) (.cells #[.slice A n c,.int .i64 P.many,.int .i64 P.deep,.slice A2 n2 c2,.int .i64 P2.many,.int .i64 P2.deep] 238);refine⟨_,rfl,⟨_,_,rfl,Nat.le_refl _,fun i p hi=>?_⟩,b1⟩
 match i,hi with
 |0,hi=>
  simp at hi;subst hi;exact⟨_,_,rfl,by simp,by simp,by simp,by simp,(ho.on b1).lies⟩
 |1,hi=>
  simp at hi;subst hi;exact⟨_,_,rfl,by simp,by simp,by simp,by simp,(ho2.on b1).lies⟩
theorem filled {w:World} {b:Nat} {x y z:Value} (h:Pd w b x y z) (x' y' z':Value):∃w',w'=((w.setCell ⟨b,0,none⟩ x').setCell ⟨b,1,none⟩ y').setCell ⟨b,2,none⟩ z'/\Pd w' b x' y' z'/\Ac b w w'/\Below b w w'/\w.heap.size=w'.heap.size:=
 ⟨_,rfl,h.set x' y' z',(((Ac.refl _ _).set).set).set,(((Below.refl b w).setCell (p:=⟨b,0,none⟩) (Nat.le_refl _) x').setCell (p:=⟨b,1,none⟩) (Nat.le_refl _) y').setCell (p:=⟨b,2,none⟩) (Nat.le_refl _) z',by simp⟩
set_option maxRecDepth 100000 in
set_option maxHeartbeats 8000000 in
theorem Wm (L:List Tok) (f:Nat) (hl:L.length<=10000) (hc:∀f',f'<=f->Gj L f') (b i d:Nat) (r1 R:Res) (g:Nat) (v:Value) (w:World) (hb:1<=b) (hb2:b<=5) (hd:d<=12) (hr1:Ah L f (b+1) i d=some r1)
  (hR:Goes L f b d R r1) (h:Sits L w g v i d):
  Calls Tryz.prog 218 #[.pointer (some ⟨g,0,none⟩),.int .i64 b] w (ED L g v d i R w):=by
 have HC:=AA hc;have HR1:=AA hr1;have HR:=AA hR;have hfine:=(Ff L f).1 _ _ _ _ (by omega) (by omega) hr1;have HFI:=AA hfine;have hgl:=h.rd.lt;have hb0:=(Below.refl w.heap.size w).alloc (Nat.le_refl _) (.cells #[.slice none 0 0,.int .i64 0,.int .i64 0] 238);have HB0:=AA hb0;have HS0:=AA (h.on hb0);have HP0:=AA (GQ w (.slice none 0 0) (.int .i64 0) (.int .i64 0));have hb6:((b:Int)==6)=false:=beq_eq_false_iff_ne.2 (by omega);clear hc hr1 hR hfine h hb0;go_enter Tryz.func218,Tryz.ntmps218;go_wp2_with fail
 refine(HC.out f (Nat.le_refl _) (b+1) i d r1 g v _ (by omega) (by omega) hd HR1.out HS0.out).mono ?_;rintro e w1 ⟨P,A,n,c,hP,rfl,ho,hS1,hK1⟩;have ho':Bn w1 (w.heap.size+1) (.slice A n c) P.ns:=by simpa using ho
 have hK1':Ac g w w1:=(Ac.of HB0.out).trans hK1;have hI0:=VN (L:=L) (f:=f) (b:=b) (R:=R) hP ho' hS1 hK1' (HP0.out.keep (by omega) hK1) HR.out HFI.out;have HI0:=AA hI0;have hlb:w.heap.size<w1.heap.size:=by have:=hK1.size;simp at this;omega
 clear hP ho hS1 hK1 ho' hK1' hI0;go_wp2_with fail
 generalize hlbe:w1.heap.size=lb at *;clear hlbe;go_loopw [7] (fun e wr=>∃E,e=.int .i64 E/\QBm L f b i d g v R w lb E wr) (fun e wr=>(if intOf e=0 then 1 else 0)+2*(L.length-QBl g wr))
 case atStart=>exact⟨_,rfl,HI0.out⟩
 case round=>
  obtain⟨E,rfl,P,A,n,c,pos,hpl,hown,hol,hpr,hS,hK,hst⟩:=hrel;have HPL:=AA hpl;have HO:=AA hown;have HOL:=AA hol;have HPR:=AA hpr;have HS:=AA hS;have HK:=AA hK;clear hown hol HI0;rcases hst with⟨rfl,f',x,hf',rfl,hfl,hloop⟩|⟨hE,hRb,hPr⟩
  ·cases f' with
   |zero=>simp[Dw]at hloop
   |succ f'=>
    by_cases hsg:Aw L b pos=0
    ·have hRe:R=.ok x pos:=by
      rw[Dw,if_pos hsg]at hloop;exact(Option.some.inj hloop).symm
     subst hRe;have HSG:=AA hsg;clear hloop hsg hfl hpl hpr hS hK;go_wp2_with fail
     refine(NH L g v pos d b _ HS.out).mono ?_;rw[HSG.out];rintro e w2 ⟨rfl,hb2⟩;have HB2:=AA hb2;obtain⟨p0,p1,p2,p3,p4,p5,p6⟩:=HPL.out.on hb2;obtain⟨q0,q1,q2,q3,q4,q5,q6⟩:=HPR.out.on hb2;clear hb2;go_wp2_with fail
     refine bodyPost_ret (v:=.tuple #[.agg #[.slice A n c,.int .i64 (BL x).many,.int .i64 (BL x).deep],.int .i64 0]) (by simp[results,Tryz.results218,go_sem, *]) rfl ?_;exact OL (R:=.ok x pos) rfl (HO.out.on HB2.out) (HS.out.on HB2.out) (HK.out.andBelow HB2.out HK.out.size) hgl rfl
    ·have hlt:=GB hsg;rw[Dw,if_neg hsg]at hloop;cases hch:Ah L f' (b+1) (pos+1) d with
     |none=>rw[hch]at hloop;cases hloop
     |some r2=>
      have hfine2:=(Ff L f').1 _ _ _ _ (by omega) (by omega) hch;obtain⟨k,hk⟩:∃k,Aw L b pos=k:=⟨_,rfl⟩
      have hk0:((k:Int)==0)=false:=beq_eq_false_iff_ne.2 (by omega);have hat:L[pos]?=some L[pos]:=List.getElem?_eq_getElem hlt;generalize L[pos]=t at *;have hsn:signN L b pos=⟨k,0,[],t.pl⟩:=by unfold signN plAt;rw[hk,hat]
      have HFIT:=AA (QBn (a:=⟨k,0,[],t.pl⟩) hl hfl hlt hfine2);have HFX:Hid (QK (BL x)):=AA (Ta (by obtain⟨a1,a2,a3,a4,a5⟩:=hfl;omega));have HNXT:Hid ((b=3->R=ZZ ⟨k,0,[],t.pl⟩ x r2)/\(b≠3->(errOf r2=0/\∃f'' x',f''<=f/\ZZ ⟨k,0,[],t.pl⟩ x r2=.ok x' (GY r2)/\Rn L i x' (GY r2)/\Dw L f'' b x' (GY r2) d=some R)\/(errOf r2≠0/\R=.bad (errOf r2) (GY r2)/\ZZ ⟨k,0,[],t.pl⟩ x r2=R))/\pos<GY r2/\ZZ ⟨k,0,[],t.pl⟩ x r2=ZZ ⟨k,0,[],t.pl⟩ x r2):=AA (by
       rw[hch,hsn]at hloop;cases r2 with
       |ok y tq=>
        simp only at hloop;have hxy:=VA hb hb2 hsg hfl hfine2;rw[hsn]at hxy;obtain⟨a1,_⟩:=hfine2;refine⟨fun h3=>?_,fun h3=>?_,by show pos<tq;omega,rfl⟩
        ·rw[if_pos h3]at hloop;exact(Option.some.inj hloop).symm
        ·rw[if_neg h3]at hloop;exact .inl ⟨rfl,f',_,by omega,rfl,hxy,hloop⟩
       |bad e j=>
        simp only at hloop;have hRe:R=.bad e j:=(Option.some.inj hloop).symm;subst hRe;obtain⟨he,a1,_⟩:=hfine2;exact⟨fun _=>rfl,fun _=>.inr ⟨by show e≠0;omega,rfl,rfl⟩,by show pos<j;omega,rfl⟩)
      have HSG:=AA hk;have HCH:=AA hch;have HAT:=AA hat;have hff:f'<=f:=by omega
      clear hloop hsg hfl hpl hpr hS hK hch hfine2 hk hat hsn;go_wp2_with fail
      refine(NH L g v pos d b _ HS.out).mono ?_;rw[HSG.out];rintro e w2 ⟨rfl,hb2⟩;have HS2:=AA (HS.out.on hb2);have HPL2:=AA (HPL.out.on hb2);have HPR2:=AA (HPR.out.on hb2);have HO2:=AA (HO.out.on hb2);have HK2:Hid (Ac g w w2):=AA (HK.out.andBelow hb2 HK.out.size);clear hb2;obtain⟨⟨hg2,c0,c1,c2,f1,f2⟩,⟨A0,cc,hv0,hcc,hr0⟩,_,_⟩:=HS2.out;obtain⟨tb,rfl,hbg,x0,x1,x2,x3⟩:=hr0 pos t HAT.out;subst hv0;clear hr0 c2 f1 f2 x0 x1 x2;have hi0:(0:Int)<=(pos:Int):=by omega
      have hi1:(pos:Int)<(L.length:Int):=by omega
      have n0:=World.new_ne w2 _ c0;have n1:=World.new_ne w2 _ c1;have m3:=World.new_ne w2 _ x3;go_wp2_with fail
      go_region_held3 (fun w'=>w'.cell? ⟨g,0,none⟩=some (.slice (some ⟨tb,0,none⟩) L.length cc)/\w'.cell? ⟨g,1,none⟩=some (.int .i64 pos)/\w'.cell? ⟨tb,pos*4+3,none⟩=some (.int .i64 t.pl))
       (first|exact⟨c0,c1,x3⟩|go_keep)
       (fail)
      have hN:=(Tc w2 (.int .i64 k) (.int .i64 0) (.string ⟨#[]⟩) (.int .i64 t.pl) 46).on (EE _ _);have hBn:=((Below.refl w2.heap.size w2).alloc (Nat.le_refl _) (.cells #[.int .i64 k,.int .i64 0,.string ⟨#[]⟩,.int .i64 t.pl] 46)).trans (EE _ _);clear n0 n1 m3 c0 c1 x3 hi0 hi1;generalize hZ:(w2.alloc (.cells #[.int .i64 k,.int .i64 0,.string ⟨#[]⟩,.int .i64 t.pl] 46)).drew=Z at *;clear hZ;have HSZ:=AA (HS2.out.on hBn);have HPLZ:=AA (HPL2.out.on hBn);have HPRZ:=AA (HPR2.out.on hBn);have HOZ:=AA (HO2.out.on hBn);have HKZ:Hid (Ac g w Z):=AA (HK2.out.andBelow hBn HK2.out.size);have HNZ:=AA hN;have hzn:=hN.lt;clear hN hBn
      obtain⟨⟨hgZ,c0,c1,c2,f1,f2⟩,_,_,_⟩:=HSZ.out;go_wp2_with fail
      obtain⟨Y,hY,hSY,hPY,hKY,hzY⟩:=Tf HSZ.out;rw[<-hY];have HSY:=AA hSY;have HPY:=AA hPY;have HPLY:=AA (HPLZ.out.keep (by omega) hKY);have HPRY:=AA (HPRZ.out.keep (by omega) hKY);have HOY:=AA (HOZ.out.keep (by omega) hKY);have HNY:=AA (HNZ.out.keep (by omega) hKY);have HKY:Hid (Ac g w Y):=AA (HKZ.out.trans hKY);have hoz:∀q,(Value.slice A n c).ownBlock=some q->q<Z.heap.size:=fun q hq=>(Ba HOZ.out q hq).2
      have HOW:=AA hoz;have hlbz:=HPLZ.out.lt;have hrz:=HPRZ.out.lt;clear hY hSY hPY hKY c0 c1 c2 f1 f2 hoz;refine(HC.out f' hff (b+1) (pos+1) d r2 g _ Y (by omega) (by omega) hd HCH.out HSY.out).mono ?_;rintro e w3 ⟨P2,A2,n2,c2,hP2,rfl,ho2,hS3,hK3⟩;have HP2:=AA hP2;have HO2':=AA ho2;have HS3:=AA hS3;have HK3:Hid (Ac g w w3):=AA (HKY.out.trans hK3);have HPL3:=AA (HPLY.out.keep (by omega) hK3);have HPR3:=AA (HPRY.out.keep (by omega) hK3);have HOL3:=AA (HOY.out.keep (by omega) hK3);have HN3:=AA (HNY.out.keep (by omega) hK3);have hPB3:=HPY.out.keep (by omega) hK3;have HPB3:=AA hPB3
      have hz3:Z.heap.size<w3.heap.size:=by have:=hK3.size;omega
      clear hP2 ho2 hS3 hK3;obtain⟨w4,hw4,hP4,hK4,hB4,hz4⟩:=filled hPB3 (.slice A2 n2 c2) (.int .i64 P2.many) (.int .i64 P2.deep);have HW4:=AA hw4;have HZ4:=AA hz4;have HS4:=AA (HS3.out.upto hB4 (by omega));have HK4:Hid (Ac g w w4):=AA (HK3.out.andBelow hB4 (by omega));have HPL4:=AA (HPL3.out.keep (g:=Z.heap.size) (by omega) hK4);have HPR4:=AA (HPR3.out.keep (g:=Z.heap.size) (by omega) hK4);have HOL4:Hid (Bn w4 (w.heap.size+1) (.slice A n c) (BL x).ns):=AA (HOL3.out.away (g:=Z.heap.size) (fun q hq=>by have:=HOW.out q hq;omega) hK4)
      have HOR4:Hid (Bn w4 Y.heap.size (.slice A2 n2 c2) P2.ns):=AA (HO2'.out.away (g:=Z.heap.size) (fun q hq=>by have:=(Ba HO2'.out q hq).1;omega) hK4);have HN4:=AA (HN3.out.keep (g:=Z.heap.size) (by omega) hK4);have HP4:=AA hP4;obtain⟨s0,s1,s2,s3,s4,s5,s6⟩:=hPB3;clear hw4 hz4 hP4 hK4 hB4;go_upto_region 11 with(fail)
      rw[<-HW4.out];clear s0 s1 s2 s3 s4 s5 s6;obtain⟨y0,y1,y2,y3,y4,_,_,_⟩:=HN4.out;obtain⟨p0,p1,p2,p3,p4,p5,p6⟩:=HPL4.out;obtain⟨s0,s1,s2,s3,s4,s5,s6⟩:=HP4.out;go_wp2_with fail
      obtain⟨J,hJ,hRJ,hBJ⟩:=Za (P:=BL x) (P2:=P2) HOL4.out HOR4.out;rw[<-hJ];have HRJ:=AA hRJ;have HBJ:=AA hBJ;clear hJ hRJ hBJ y0 y1 y2 y3 y4 p0 p1 p2 p3 p4 p5 p6 s0 s1 s2 s3 s4 s5 s6;have HFT:=AA (HFIT.out P2 HP2.out);refine(NI ⟨k,0,[],t.pl⟩ _ [BL x,P2] J HRJ.out (by simp) (by intro p hp;simp at hp;rcases hp with rfl|rfl;exact HFX.out;exact HFT.out.1)).mono ?_;rintro e w5 ⟨u,rfl,ho5,hb5⟩;obtain⟨A5,n5,c5,rfl⟩:=Eh ho5;have hJz:=HBJ.out.size;have hb45:=AC HBJ.out hb5;have HO5:=AA ho5;have HS5:=AA (HS4.out.on hb45);have HK5:Hid (Ac g w w5):=AA (HK4.out.andBelow hb45 HK4.out.size)
      have hPL5:=HPL4.out.on hb45;have HPR5:=AA (HPR4.out.on hb45);have hlb4:=HPL4.out.lt;clear ho5 hb5 hb45;have HFP:=AA HFT.out.2;generalize FA ⟨(k:Int),0,[],(t.pl:Int)⟩ [BL x,P2]=P' at *;obtain⟨w6,hw6,hP6,hK6,hB6,hz6⟩:=filled hPL5 (.slice A5 n5 c5) (.int .i64 P'.many) (.int .i64 P'.deep);have HW6:=AA hw6;have HS6:=AA (HS5.out.upto hB6 (by omega));have HK6:Hid (Ac g w w6):=AA (HK5.out.andBelow hB6 (by omega));have HPR6:=AA (HPR5.out.keep (g:=lb) (by omega) hK6);have hob:∀q,(Value.slice A5 n5 c5).ownBlock=some q->q≠lb:=fun q hq=>by have:=(Ba HO5.out q hq).1;omega
      have HOB:=AA hob;have HO6:Hid (Bn w6 (w.heap.size+1) (.slice A5 n5 c5) P'.ns):=AA ((HO5.out.away (g:=lb) hob hK6).base (by omega));have HP6:=AA hP6;obtain⟨s0,s1,s2,s3,s4,s5,s6⟩:=hPL5;clear hw6 hz6 hP6 hK6 hB6 hob;go_upto_region 12 with(fail)
      rw[<-HW6.out];clear s0 s1 s2 s3 s4 s5 s6;by_cases h3:b=3
      ·have hRe:=HNXT.out.1 h3;have HRE:=AA hRe;have hb3:((b:Int)==3)=true:=by rw[h3];rfl
       have HE:Hid (errOf r2=errOf R):=AA (by rw[hRe];cases r2<;>rfl);have HPo:Hid (GY r2=GY R):=AA (by rw[hRe];cases r2<;>rfl);obtain⟨p0,p1,p2,p3,p4,p5,p6⟩:=HP6.out;obtain⟨q0,q1,q2,q3,q4,q5,q6⟩:=HPR6.out;clear hRe h3;go_wp2_with fail
       refine bodyPost_ret (v:=.tuple #[.agg #[.slice A5 n5 c5,.int .i64 P'.many,.int .i64 P'.deep],.int .i64 (errOf r2)]) (by simp[results,Tryz.results218,go_sem, *]) rfl ?_;exact OL (by rw[HRE.out];exact HFP.out) HO6.out (by rw[<-HPo.out];exact HS6.out) HK6.out hgl HE.out
      ·have hb3:((b:Int)==3)=false:=beq_eq_false_iff_ne.2 (by omega);have HNX:=AA (HNXT.out.2.1 h3);have HPS:=AA HNXT.out.2.2.1;have HR1:=AA (VM HS6.out);have HR0:=AA (VM HS.out);clear h3;go_wp2_with fail
       go_roundw;case rel=>
        refine⟨_,rfl,P',A5,n5,c5,GY r2,HP6.out,HO6.out,HOB.out,HPR6.out,HS6.out,HK6.out,?_⟩;rcases HNX.out with⟨h0,f'',x',hf'',hbx,hfx,hlx⟩|⟨h0,hRb,hbx⟩
        ·refine .inl ⟨h0,f'',x',hf'',?_,hfx,hlx⟩;have:=HFP.out;rw[hbx]at this;exact this
        ·refine .inr ⟨h0,hRb,?_⟩;have:=HFP.out;rw[hbx]at this;exact this
       case measure=>
        rw[HR1.out,HR0.out];have:=HPS.out;split<;>simp[intOf]<;>omega
  ·subst hRb;have hE2:(E==0)=false:=beq_eq_false_iff_ne.2 hE;have HPr:=AA hPr;obtain⟨p0,p1,p2,p3,p4,p5,p6⟩:=hpl;obtain⟨q0,q1,q2,q3,q4,q5,q6⟩:=hpr;clear hE hPr hS hK;go_wp2_with fail
   refine bodyPost_ret (v:=.tuple #[.agg #[.slice A n c,.int .i64 P.many,.int .i64 P.deep],.int .i64 E]) (by simp[results,Tryz.results218,go_sem, *]) rfl ?_;exact OL (R:=.bad E pos) HPr.out HO.out HS.out HK.out hgl rfl
end Go.Proofs.YthfkpalfopdmhaaGreatDoor
