/- Texts of the walk, packed. -/
import Derived.Test.YthfkpalfopdmhaaGreatDoorX12
import Derived.Test.YthfkpalfopdmhaaGreatDoorX00
namespace Go.Proofs.YthfkpalfopdmhaaGreatDoor
open Go.RowKit
theorem mkf (fn:Fn) (first cap:Array Value) (w:World):(Instr.makeFunc fn first cap).run Tryz.prog w=.ok (.func fn first cap) w:=rfl
theorem QAk {i i':Nat} {r:Res} {P:Prt} (h:Fb i' r P) (hi:i≤i'):Fb i r P:=by
 cases r with
 |ok x tq=>exact h
 |bad e j=>
  obtain⟨h1,h2,h3,h4⟩:=h;exact⟨h1,h2,by omega,by omega⟩
def QAl (L:List Tok) (g:Nat) (v:Value) (d:Nat) (Q:Prt→Prop) (err:Int) (pos:Nat) (w:World) (e:Ending) (w':World):Prop:=
 ∃(P:Prt) (A:Option Addr) (n c:Nat),Q P∧e=.returned (.tuple #[.agg #[.slice A n c,.int .i64 P.many,.int .i64 P.deep],.int .i64 err])∧CL w' w.heap.size (.slice A n c) P.ns∧Sits L w' g v pos d∧Ah g w w'
set_option maxRecDepth 100000 in
set_option maxHeartbeats 2000000 in
theorem OS (L:List Tok) (g:Nat) (v fv:Value) (i:Nat) (w:World) (h:Sits L w g v i 12):Calls Tryz.prog 263 #[.pointer (some ⟨g,0,none⟩),fv] w (QAl L g v 12 (fun P=>P=⟨[],0,0⟩) 7 i w):=by
 have HS:=AA h;obtain⟨⟨hgl,c0,c1,c2,f1,f2⟩,_,_,_⟩:=h;go_enter Tryz.func263,Tryz.ntmps263;go_wp2_with fail
 refine bodyPost_ret (v:=.tuple #[.agg #[.slice none 0 0,.int .i64 0,.int .i64 0],.int .i64 7]) (by simp[results,Tryz.results263,go_sem, *]) rfl ?_;have hb:=(Below.refl w.heap.size w).alloc (Nat.le_refl _) (.cells #[.slice none 0 0,.int .i64 0,.int .i64 0] 238);exact⟨⟨[],0,0⟩,_,_,_,rfl,rfl,Ez _ _,HS.out.on hb,Ah.of hb⟩
theorem J2 {L:List Tok} {g:Nat} {v:Value} {i d:Nat} {w:World} (h:Sits L w g v i d):
  ∃W,W=(w.alloc (.cells #[.pointer (some ⟨g,0,none⟩)] 234)).alloc (.cells #[.slice none 0 0,.int .i64 0,.int .i64 0] 238)∧Sits L W g v i d∧W.cell? ⟨w.heap.size,0,none⟩=some (.pointer (some ⟨g,0,none⟩))∧Pd W (w.heap.size+1) (.slice none 0 0) (.int .i64 0) (.int .i64 0)∧Below w.heap.size w W∧w.heap.size+1<W.heap.size:=by
 have b1:=(Below.refl w.heap.size w).alloc (Nat.le_refl _) (.cells #[.pointer (some ⟨g,0,none⟩)] 234);have c1:(w.alloc (.cells #[.pointer (some ⟨g,0,none⟩)] 234)).cell? ⟨w.heap.size,0,none⟩=some (.pointer (some ⟨g,0,none⟩)):=by simp
 have s1:(w.alloc (.cells #[.pointer (some ⟨g,0,none⟩)] 234)).heap.size=w.heap.size+1:=by simp
 generalize w.alloc (.cells #[.pointer (some ⟨g,0,none⟩)] 234)=w1 at *;have b2:=(Below.refl w1.heap.size w1).alloc (Nat.le_refl _) (.cells #[.slice none 0 0,.int .i64 0,.int .i64 0] 238);refine⟨_,rfl,(h.on b1).on b2,(b2.cell (p:=⟨w.heap.size,0,none⟩) (by show w.heap.size<_;omega)).trans c1,?_,AC b1 b2,by simp;omega⟩;have:=GU w1 (.slice none 0 0) (.int .i64 0) (.int .i64 0)
 rwa [s1]at this
theorem QAm {W w1 w2:World} {a q:Nat} {x y z:Value} (ha:a<W.heap.size) (hq:q<W.heap.size) (h:w1.cell? ⟨q,0,none⟩=some z∧w1.cell? ⟨a,0,none⟩=some x∧w1.cell? ⟨a,1,none⟩=some y∧Below W.heap.size W w1) (hb:Below w1.heap.size w1 w2):
  w2.cell? ⟨q,0,none⟩=some z∧w2.cell? ⟨a,0,none⟩=some x∧w2.cell? ⟨a,1,none⟩=some y∧Below W.heap.size W w2:=by
 have hz:=h.2.2.2.size;exact⟨(hb.cell (p:=⟨q,0,none⟩) (by show q<_;omega)).trans h.1,(hb.cell (p:=⟨a,0,none⟩) (by show a<_;omega)).trans h.2.1,(hb.cell (p:=⟨a,1,none⟩) (by show a<_;omega)).trans h.2.2.1,AC h.2.2.2 hb⟩
set_option maxRecDepth 100000 in
set_option maxHeartbeats 4000000 in
theorem Md (L:List Tok) (g:Nat) (v:Value) (i d:Nat) (w:World) (h:Sits L w g v i d) (ho:isB L i [40]=true) (r:Res)
  (hin:∀(q:Nat) (W:World),Sits L W g v i d→q<W.heap.size→q≠g→W.cell? ⟨q,0,none⟩=some (.pointer (some ⟨g,0,none⟩))→Calls Tryz.prog 263 #[.pointer (some ⟨g,0,none⟩),.func (.func 264) #[] #[.pointer (some ⟨q,0,none⟩)]] W (EL L g v d i r W)):
  Calls Tryz.prog 236 #[.pointer (some ⟨g,0,none⟩)] w (EL L g v d i r w):=by
 have HIN:=AA hin;have HI:=AA ho;have hgl:=h.rd.lt;have hmk:=mkf;obtain⟨W,hW,hS,hq,hP,hB,hz⟩:=J2 h;have HW:=AA hW;have HS:=AA hS;have HP:=AA hP;have HB:=AA hB;obtain⟨⟨hg1,c0,c1,_,_,_⟩,_,_,_⟩:=hS;clear hin ho h hP hB hW;go_enter Tryz.func236,Tryz.ntmps236;go_wp2_with fail
 rw[←HW.out];clear HW;have hqz:w.heap.size<W.heap.size:=by omega
 go_region_held3 (fun w'=>w'.cell? ⟨w.heap.size,0,none⟩=some (.pointer (some ⟨g,0,none⟩))∧w'.cell? ⟨g,0,none⟩=some v∧w'.cell? ⟨g,1,none⟩=some (.int .i64 i)∧Below W.heap.size W w')
  (first|exact⟨hq,c0,c1,Below.refl _ _⟩|exact⟨hq,c0,c1,AD _⟩|exact QAm (w1:=W.drew) hg1 hqz ⟨hq,c0,c1,AD _⟩ hb1)
  (first|(go_at_call 77;refine(GI (s:=[40]) HI.out v _ (HS.out.on (AD _)).read).mono ?_;rintro e w1 ⟨rfl,hb1⟩))
 have hbw:=AC (AD W) hb1;have HBW:=AA hbw;have HS1:=AA (HS.out.on hbw);have HP1:=AA (HP.out.on hbw);have hq1:=(hbw.cell (p:=⟨w.heap.size,0,none⟩) hqz).trans hq;have hz1:w.heap.size+1<w1.heap.size:=by have:=hbw.size;omega
 clear hb1 hbw c0 c1 hq;go_wp2_with fail
 refine(HIN.out w.heap.size w1 HS1.out (by omega) (by omega) hq1).mono ?_;rintro e w2 ⟨P,A,n,c,hPr,rfl,hown,hS2,hK2⟩;have HPr:=AA hPr;have HO:=AA hown;have HS2:=AA hS2;have HK:Hid (Ah g w w2):=AA ((Ah.of (AC HB.out HBW.out)).trans hK2);obtain⟨p0,p1,p2,p3,p4,p5,p6⟩:=HP1.out.keep (by omega) hK2;clear hPr hown hS2 hK2 hq1;go_wp2_with fail
 refine bodyPost_ret (v:=.tuple #[.agg #[.slice A n c,.int .i64 P.many,.int .i64 P.deep],.int .i64 (errOf r)]) (by simp[results,Tryz.results236,go_sem, *]) rfl ?_;exact DG (rb:=w.heap.size+1) HPr.out rfl (HO.out.base (by omega)) (fun b hb=>by have:=(By HO.out b hb).1;omega) HS2.out HK.out (by omega) (by omega)
set_option maxRecDepth 100000 in
set_option maxHeartbeats 4000000 in
theorem Ue (L:List Tok) (g:Nat) (v:Value) (i d:Nat) (w:World) (h:Sits L w g v i d) (hl:L.length≤10000) (hsm:Gl L) (ho:isB L i [40]=false) (hsg:A9 L 6 i=0):
  Calls Tryz.prog 236 #[.pointer (some ⟨g,0,none⟩)] w (EL L g v d i (Ff L i) w):=by
 have HSG:=AA hsg;have HSM:=AA hsm;clear hsg hsm;have HI:=AA ho;have hgl:=h.rd.lt;have hmk:=mkf;obtain⟨W,hW,hS,hq,hP,hB,hz⟩:=J2 h;have HW:=AA hW;have HS:=AA hS;have HP:=AA hP;have HB:=AA hB;obtain⟨⟨hg1,c0,c1,_,_,_⟩,_,_,_⟩:=hS;clear ho h hP hB hW;go_enter Tryz.func236,Tryz.ntmps236;go_wp2_with fail
 rw[←HW.out];clear HW;have hqz:w.heap.size<W.heap.size:=by omega
 go_region_held3 (fun w'=>w'.cell? ⟨w.heap.size,0,none⟩=some (.pointer (some ⟨g,0,none⟩))∧w'.cell? ⟨g,0,none⟩=some v∧w'.cell? ⟨g,1,none⟩=some (.int .i64 i)∧Below W.heap.size W w')
  (first|exact⟨hq,c0,c1,Below.refl _ _⟩|exact⟨hq,c0,c1,AD _⟩|exact QAm (w1:=W.drew) hg1 hqz ⟨hq,c0,c1,AD _⟩ hb1)
  (first|(go_at_call 77;refine(GI (s:=[40]) HI.out v _ (HS.out.on (AD _)).read).mono ?_;rintro e w1 ⟨rfl,hb1⟩))
 have hbw:=AC (AD W) hb1;have HBW:=AA hbw;have HS1:=AA (HS.out.on hbw);have HP1:=AA (HP.out.on hbw);have hq1:=(hbw.cell (p:=⟨w.heap.size,0,none⟩) hqz).trans hq;have hz1:w.heap.size+1<w1.heap.size:=by have:=hbw.size;omega
 clear hb1 hbw c0 c1 hq;go_wp2_with fail
 refine(MY L g v i d 6 _ HS1.out).mono ?_;rw[HSG.out];rintro e w2 ⟨rfl,hb2⟩;have HB2:=AA (AC HB.out (AC HBW.out hb2));have HS2:=AA (HS1.out.on hb2);have HP2:=AA (HP1.out.on hb2);have hq2:=(hb2.cell (p:=⟨w.heap.size,0,none⟩) (by show w.heap.size<_;omega)).trans hq1;have hz2:w.heap.size+1<w2.heap.size:=by have:=hb2.size;omega
 clear hb2 hq1;go_wp2_with fail
 refine(QAi L g v i d _ HS2.out hl HSM.out).mono ?_;rintro e w3 ⟨P,A,n,c,hPr,rfl,hown,hS3,hK3⟩;have HPr:=AA hPr;have HO:=AA hown;have HS3:=AA hS3;have HK:Hid (Ah g w w3):=AA ((Ah.of HB2.out).trans hK3);obtain⟨p0,p1,p2,p3,p4,p5,p6⟩:=HP2.out.keep (by omega) hK3;clear hPr hown hS3 hK3 hq2;generalize Ff L i=r at *;go_wp2_with fail
 refine bodyPost_ret (v:=.tuple #[.agg #[.slice A n c,.int .i64 P.many,.int .i64 P.deep],.int .i64 (errOf r)]) (by simp[results,Tryz.results236,go_sem, *]) rfl ?_;exact DG (rb:=w.heap.size+1) HPr.out rfl (HO.out.base (by omega)) (fun b hb=>by have:=(By HO.out b hb).1;omega) HS3.out HK.out (by omega) (by omega)
theorem Nd.keep {g b:Nat} {w w':World} {x0 x1 x2 x3:Value} (h:Nd w b x0 x1 x2 x3) (hb:b≠g) (hk:Ah g w w'):Nd w' b x0 x1 x2 x3:=
 ⟨Nat.lt_of_lt_of_le h.lt hk.size,(hk.cell h.lt hb).trans h.c0,(hk.cell h.lt hb).trans h.c1,(hk.cell h.lt hb).trans h.c2,(hk.cell h.lt hb).trans h.c3,(hk.frozen h.lt hb).trans h.f0,(hk.frozen h.lt hb).trans h.f1,(hk.frozen h.lt hb).trans h.f2⟩
theorem QAn {w:World} {B:Nat} {P:Prt} {A:Option Addr} {n c:Nat} (ho:CL w B (.slice A n c) P.ns):
  ∃J,J=(w.alloc (.cells #[.slice A n c,.int .i64 P.many,.int .i64 P.deep] 238)).alloc (.cells #[.slice A n c,.int .i64 P.many,.int .i64 P.deep] 238)∧PX J (.slice (some ⟨w.heap.size+1,0,none⟩) 1 1) [P]∧Below w.heap.size w J:=by
 have b1:=(Below.refl w.heap.size w).alloc (Nat.le_refl _) (.cells #[.slice A n c,.int .i64 P.many,.int .i64 P.deep] 238);have s1:(w.alloc (.cells #[.slice A n c,.int .i64 P.many,.int .i64 P.deep] 238)).heap.size=w.heap.size+1:=by simp
 generalize w.alloc (.cells #[.slice A n c,.int .i64 P.many,.int .i64 P.deep] 238)=w1 at *;have b2:=(Below.refl w1.heap.size w1).alloc (Nat.le_refl _) (.cells #[.slice A n c,.int .i64 P.many,.int .i64 P.deep] 238);have hp:=GU w1 (.slice A n c) (.int .i64 P.many) (.int .i64 P.deep);rw[s1]at hp;refine⟨_,rfl,⟨_,_,rfl,Nat.le_refl _,fun i p hi=>?_⟩,AC b1 b2⟩
 match i,hi with
 |0,hi=>
  simp at hi;subst hi;exact⟨_,_,rfl,hp.lt,hp.c0,hp.c1,hp.c2,(ho.on (AC b1 b2)).lies⟩
def unR (a:Nod):Res→Res
 |.ok x tq=>.ok (.un a x) tq
 |.bad e j=>.bad e j
set_option maxRecDepth 100000 in
set_option maxHeartbeats 4000000 in
theorem RP (L:List Tok) (g:Nat) (v:Value) (i d k:Nat) (w:World) (h:Sits L w g v i d) (ho:isB L i [40]=false) (hsg:A9 L 6 i=k) (hk:k≠0) (r:Res) (Q:Prt→Prop)
  (hin:∀(W:World),Sits L W g v i d→Calls Tryz.prog 263 #[.pointer (some ⟨g,0,none⟩),.func (.func 236) #[.pointer (some ⟨g,0,none⟩)] #[]] W (QAl L g v d Q (errOf r) (Gh r) W))
  (hfit:∀P,Q P→PW P∧Fb i (unR ⟨k,0,[],plAt L i⟩ r) (E3 ⟨k,0,[],plAt L i⟩ [P])):
  Calls Tryz.prog 236 #[.pointer (some ⟨g,0,none⟩)] w (EL L g v d i (unR ⟨k,0,[],plAt L i⟩ r) w):=by
 have hlt:=GG (L:=L) (b:=6) (i:=i) (by rw[hsg];exact hk);have hk0:((k:Int)==0)=false:=beq_eq_false_iff_ne.2 (by omega);have HSG:=AA hsg;have HIN:=AA hin;have HFIT:=AA hfit;have hat:L[i]?=some L[i]:=List.getElem?_eq_getElem hlt;generalize L[i]=t at *;have HPL:Hid (plAt L i=t.pl):=AA (by unfold plAt;rw[hat]);have HAT:=AA hat;clear hsg hin hfit hat;have HI:=AA ho;have hgl:=h.rd.lt;have hmk:=mkf;obtain⟨W,hW,hS,hq,hP,hB,hz⟩:=J2 h;have HW:=AA hW;have HS:=AA hS;have HP:=AA hP;have HB:=AA hB;obtain⟨⟨hg1,c0,c1,_,_,_⟩,_,_,_⟩:=hS;clear ho h hP hB hW
 go_enter Tryz.func236,Tryz.ntmps236;go_wp2_with fail
 rw[←HW.out];clear HW;have hqz:w.heap.size<W.heap.size:=by omega
 go_region_held3 (fun w'=>w'.cell? ⟨w.heap.size,0,none⟩=some (.pointer (some ⟨g,0,none⟩))∧w'.cell? ⟨g,0,none⟩=some v∧w'.cell? ⟨g,1,none⟩=some (.int .i64 i)∧Below W.heap.size W w')
  (first|exact⟨hq,c0,c1,Below.refl _ _⟩|exact⟨hq,c0,c1,AD _⟩|exact QAm (w1:=W.drew) hg1 hqz ⟨hq,c0,c1,AD _⟩ hb1)
  (first|(go_at_call 77;refine(GI (s:=[40]) HI.out v _ (HS.out.on (AD _)).read).mono ?_;rintro e w1 ⟨rfl,hb1⟩))
 have hbw:=AC (AD W) hb1;have HBW:=AA hbw;have HS1:=AA (HS.out.on hbw);have HP1:=AA (HP.out.on hbw);have hq1:=(hbw.cell (p:=⟨w.heap.size,0,none⟩) hqz).trans hq;have hz1:w.heap.size+1<w1.heap.size:=by have:=hbw.size;omega
 clear hb1 hbw c0 c1 hq;go_wp2_with fail
 refine(MY L g v i d 6 _ HS1.out).mono ?_;rw[HSG.out];rintro e w2 ⟨rfl,hb2⟩;have HB2:=AA (AC HB.out (AC HBW.out hb2));have HS2:=AA (HS1.out.on hb2);have HP2:=AA (HP1.out.on hb2);have hq2:=(hb2.cell (p:=⟨w.heap.size,0,none⟩) (by show w.heap.size<_;omega)).trans hq1;have hz2:w.heap.size+1<w2.heap.size:=by have:=hb2.size;omega
 clear hb2 hq1;obtain⟨⟨hg2,c0,c1,c2,f1,f2⟩,⟨A0,cc,hv0,hcc,hr0⟩,_,_⟩:=HS2.out;obtain⟨b,rfl,hbg,x0,x1,x2,x3⟩:=hr0 i t HAT.out;subst hv0;clear hr0 c2 f1 f2 x0 x1 x2;have hi0:(0:Int)≤(i:Int):=by omega
 have hi1:(i:Int)<(L.length:Int):=by omega
 have n0:=World.new_ne w2 _ c0;have n1:=World.new_ne w2 _ c1;have m3:=World.new_ne w2 _ x3;have q3:=World.new_ne w2 _ hq2;go_wp2_with fail
 go_region_held3 (fun w'=>w'.cell? ⟨w.heap.size,0,none⟩=some (.pointer (some ⟨g,0,none⟩))∧w'.cell? ⟨g,0,none⟩=some (.slice (some ⟨b,0,none⟩) L.length cc)∧w'.cell? ⟨g,1,none⟩=some (.int .i64 i)∧w'.cell? ⟨b,i*4+3,none⟩=some (.int .i64 t.pl))
  (first|exact⟨hq2,c0,c1,x3⟩|go_keep)
  (fail)
 have hN:=Su w2 (.int .i64 k) (.int .i64 0) (.string ⟨#[]⟩) (.int .i64 t.pl) 46;have hBn:=((Below.refl w2.heap.size w2).alloc (Nat.le_refl _) (.cells #[.int .i64 k,.int .i64 0,.string ⟨#[]⟩,.int .i64 t.pl] 46)).trans (EM _ _);replace hN:=hN.on (EM _ _);clear n0 n1 m3 q3 c0 c1 x3 hi0 hi1;generalize hZ:(w2.alloc (.cells #[.int .i64 k,.int .i64 0,.string ⟨#[]⟩,.int .i64 t.pl] 46)).drew=Z at *;clear hZ;have HSZ:=AA (HS2.out.on hBn);have HPZ:=AA (HP2.out.on hBn);have HBZ:=AA (AC HB2.out hBn);have HNZ:=AA hN;have hqZ:=(hBn.cell (p:=⟨w.heap.size,0,none⟩) (by show w.heap.size<_;omega)).trans hq2;have hzn:=hN.lt
 clear hN hBn hq2;go_wp2_with fail
 refine(HIN.out Z HSZ.out).mono ?_;rintro e w3 ⟨P,A,n,c,hPr,rfl,hown,hS3,hK3⟩;have HPr:=AA hPr;have HO:=AA hown;have HS3:=AA hS3;have HK:Hid (Ah g w w3):=AA ((Ah.of HBZ.out).trans hK3);have HP3:=AA (HPZ.out.keep (by omega) hK3);have hN3:=HNZ.out.keep (by omega) hK3;have hz3:w2.heap.size<w3.heap.size:=by have:=hK3.size;omega
 obtain⟨y0,y1,y2,y3,y4,_,_,_⟩:=hN3;clear hPr hown hS3 hK3 hqZ;go_wp2_with fail
 obtain⟨J,hJ,hRJ,hBJ⟩:=QAn (P:=P) HO.out;rw[←hJ];have HRJ:=AA hRJ;have HBJ:=AA hBJ;clear hJ hRJ hBJ y0 y1 y2 y3 y4;have hfits:=(HFIT.out P HPr.out).1;have HFT:=AA hfits;clear hfits;refine(MZ ⟨k,0,[],t.pl⟩ _ [P] J HRJ.out (by simp) (by intro p hp;simp at hp;subst hp;exact HFT.out)).mono ?_;rintro e w5 ⟨u,rfl,ho5,hb5⟩;obtain⟨A5,n5,c5,rfl⟩:=IR ho5;have HO5:=AA ho5;have hb35:=AC HBJ.out hb5;have HB5:=AA hb35;obtain⟨p0,p1,p2,p3,p4,p5,p6⟩:=HP3.out.on hb35;have hJz:=HBJ.out.size;clear ho5 hb5 hb35;have HE:Hid (errOf (unR ⟨k,0,[],plAt L i⟩ r)=errOf r):=AA (by cases r<;>rfl)
 have HPo:Hid (Gh (unR ⟨k,0,[],plAt L i⟩ r)=Gh r):=AA (by cases r<;>rfl);have hfp:=(HFIT.out P HPr.out).2;rw[show E3 ⟨(k:Int),0,[],plAt L i⟩ [P]=E3 ⟨(k:Int),0,[],(t.pl:Int)⟩ [P]from by rw[HPL.out]]at hfp;have HFP:=AA hfp;clear hfp;generalize E3 ⟨(k:Int),0,[],(t.pl:Int)⟩ [P]=P' at *;go_wp2_with fail
 refine bodyPost_ret (v:=.tuple #[.agg #[.slice A5 n5 c5,.int .i64 P'.many,.int .i64 P'.deep],.int .i64 (errOf r)]) (by simp[results,Tryz.results236,go_sem, *]) rfl ?_;exact DG (rb:=w.heap.size+1) HFP.out HE.out.symm (HO5.out.base (by omega)) (fun b hb=>by have:=(By HO5.out b hb).1;omega) (by rw[HPo.out];exact HS3.out.on HB5.out) (HK.out.andBelow HB5.out HK.out.size) (by omega) (by omega)
theorem Yi (P:Prt):EJ [P]=P.many+1:=by simp[EJ];omega
theorem Yj (P:Prt):EK [P]=max 1 (P.deep+1):=by simp[EK]
theorem QC1 {L:List Tok} {i:Nat} {a:Nod} {r:Res} (hl:L.length≤10000) (hi:i<L.length) (hf:O8 L (i+1) r):∀P,Fb (i+1) r P→PW P∧Fb i (unR a r) (E3 a [P]):=by
 intro P hP;cases r with
 |ok x tq=>
  obtain rfl:P=BM x:=hP;obtain⟨h1,h2,h3,h4,h5⟩:=hf;exact⟨Ss (by omega),QCz a x⟩
 |bad e j=>
  obtain⟨_,g1,g2⟩:=hf;obtain⟨h1,h2,h3,h4⟩:=hP;refine⟨⟨h1,by omega,by omega⟩,?_⟩;show(E3 a [P]).ns.length≤40∧(E3 a [P]).ns.length≤EJ [P]∧EJ [P]≤j-i+1∧EK [P]≤j-i+1;have e1:(E3 a [P]).ns=if EJ [P]≤40 then Hy a [P]else[]:=rfl
  have e2:(Hy a [P]).length=P.ns.length+1:=by simp[Hy]
  rw[e1,Yj];rw[Yi]at *;split
  ·rw[e2];omega
  ·simp;omega
theorem Uf (L:List Tok) (f:Nat) (hl:L.length≤10000) (hsm:Gl L) (hc:Gq L f) (hs:Gp L f):Gp L (f+1):=by
 intro i d r g v w hd hr h;rw[BX]at hr;cases ho:isB L i [40]with
 |true=>
  have hlt:=Bt ho;rw[ho,if_pos rfl]at hr;by_cases h12:d=12
  ·subst h12;rw[if_pos rfl]at hr;simp at hr;subst hr;refine Md L g v i 12 w h ho _ (fun q W hS _ _ _=>?_);refine(OS L g v _ i W hS).mono ?_;rintro e w' ⟨P,A,n,c,hq,h1,h2,h3,h4⟩;exact⟨P,A,n,c,by rw[hq];exact Kq _ _ _,h1,h2,h3,h4⟩
  ·rw[if_neg h12]at hr;cases hch:Ax L f 1 (i+1) (d+1)with
   |none=>rw[hch]at hr;cases hr
   |some r1=>
    have e:r=JI L r1:=by
     rw[hch]at hr;cases r1 with
     |ok x tq=>
      simp only at hr;show r=if isB L tq [41]=true then Res.ok x (tq+1)else If L tq
      split at hr
      ·simp at hr;rw[if_pos (by assumption)];exact hr.symm
      ·simp at hr;rw[if_neg (by assumption)];exact hr.symm
     |bad e j=>simp at hr;exact hr.symm
    subst e;refine Md L g v i d w h ho _ (fun q W hS hq hqg hqc=>?_);refine(Sz L g v i d W hS hl hlt (by omega) q hq hqg hqc f hc r1 hch).mono ?_;rintro e w' ⟨P,A,n,c,h0,h1,h2,h3,h4⟩;exact⟨P,A,n,c,QAk h0 (by omega),h1,h2,h3,h4⟩
 |false=>
  rw[ho,if_neg (by simp)]at hr;by_cases hsg:A9 L 6 i=0
  ·rw[if_pos hsg]at hr;simp at hr;subst hr;exact Ue L g v i d w h hl hsm ho hsg
  ·have hlt:=GG hsg;rw[if_neg hsg]at hr;by_cases h12:d=12
   ·subst h12;rw[if_pos rfl]at hr;simp at hr;subst hr;refine RP L g v i 12 (A9 L 6 i) w h ho rfl hsg (.bad 7 i) (fun P=>P=⟨[],0,0⟩) (fun W hS=>OS L g v _ i W hS) (fun P hP=>?_);subst hP;refine⟨⟨by simp,by simp,by simp⟩,?_⟩;show(E3 _ [⟨[],0,0⟩]).ns.length≤40∧(E3 _ [⟨[],0,0⟩]).ns.length≤1∧1≤i-i+1∧1≤i-i+1;refine⟨by show(1:Nat)≤40;omega,Nat.le_refl _,by omega,by omega⟩
   ·rw[if_neg h12]at hr;cases hch:BX L f (i+1) (d+1)with
    |none=>rw[hch]at hr;cases hr
    |some r1=>
     have e:r=unR (signN L 6 i) r1:=by
      rw[hch]at hr;cases r1 with
      |ok x tq=>simp at hr;exact hr.symm
      |bad e j=>simp at hr;exact hr.symm
     subst e;have hfine:=(Fg L f).2.2 _ _ _ hch;exact RP L g v i d (A9 L 6 i) w h ho rfl hsg r1 (Fb (i+1) r1) (fun W hS=>Qr L g v i d W hS hl hlt (by omega) f hs r1 hch) (fun P hP=>QC1 hl hlt hfine P hP)
end Go.Proofs.YthfkpalfopdmhaaGreatDoor
