/- Texts of the walk, packed. -/
import Derived.Test.YthfkpalfopdmhaaGreatDoorW44
import Derived.Test.YthfkpalfopdmhaaGreatDoorW00
namespace Go.Proofs.YthfkpalfopdmhaaGreatDoor
open Go.RowKit
theorem Ys {W:World} {b:Nat} {A1 A2 A3 A4 A5 A6:Option Addr} {n1 n2 n3 n4 n5 n6 m1 m2 m3 m4 m5 m6:Nat} (h:W.heap[b]?=some (.cells #[.slice A1 n1 m1,.slice A2 n2 m2,.slice A3 n3 m3,.slice A4 n4 m4,.slice A5 n5 m5,.slice A6 n6 m6] 27 (0,0))):
  W.cell? ⟨b,0,none⟩=some (.slice A1 n1 m1)/\W.cell? ⟨b,1,none⟩=some (.slice A2 n2 m2)/\W.cell? ⟨b,2,none⟩=some (.slice A3 n3 m3)/\W.cell? ⟨b,3,none⟩=some (.slice A4 n4 m4)/\W.cell? ⟨b,4,none⟩=some (.slice A5 n5 m5)/\W.cell? ⟨b,5,none⟩=some (.slice A6 n6 m6):=
 ⟨by rw[Lib.cell_of_heap h];rfl,by rw[Lib.cell_of_heap h];rfl,by rw[Lib.cell_of_heap h];rfl,by rw[Lib.cell_of_heap h];rfl,by rw[Lib.cell_of_heap h];rfl,by rw[Lib.cell_of_heap h];rfl⟩
theorem QFo {w:World} {B g n c k:Nat} {K:List Lv} {a:Lv} (h:Ep w B (.slice (some ⟨g,0,none⟩) n c) K) (ha:K[k]?=some a):w.cell? ⟨g,k,none⟩=some a.v:=by
 obtain⟨A,c2,hv,_,_,hr⟩:=h.reads;obtain⟨g2,hA,_,_,x0⟩:=hr k a ha;simp only[Value.slice.injEq]at hv;rw[hA]at hv;have:g=g2:=by simpa using hv.1
 subst this;exact x0
theorem Yt {w:World} {B g n c k:Nat} {K:List Cv} {a:Cv} (h:Dy w B (.slice (some ⟨g,0,none⟩) n c) K) (ha:K[k]?=some a):w.cell? ⟨g,k*2,none⟩=some a.vE/\w.cell? ⟨g,k*2+1,none⟩=some (.int .i64 a.c.pl):=by
 obtain⟨A,c2,hv,_,_,hr⟩:=h.reads;obtain⟨g2,hA,_,_,x0,x1⟩:=hr k a ha;simp only[Value.slice.injEq]at hv;rw[hA]at hv;have:g=g2:=by simpa using hv.1
 subst this;exact⟨x0,x1⟩
theorem Ul.tells {b:Bool} {w w':World} {e:Ending} (h:Ul b w e w'):AK b w e w':=by
 obtain⟨h1,n,rfl⟩:=h;exact⟨h1,AM _ _⟩
theorem TF (p:Bool) {v1 v2:Value} {L M:List Thr} {w:World} {B B':Nat} (h1:EV w B v1 L) (h2:EV w B' v2 M) (hl:L.length<=10000) (hs:∀x∈L,DX x):
  Calls Tryz.prog 32 #[v1,v2,.bool p] w (AK (Ae (CH p) L M) w):=by
 obtain⟨K1,hK1,rfl⟩:=h1;obtain⟨K2,hK2,rfl⟩:=h2;have:=QA8 p hK1 hK2 (by rw[List.length_map]at hl;exact hl) (fun x hx=>by
  have:=hs _ (List.mem_map_of_mem hx);exact⟨this.2.2.2.1,this.2.2.2.2,this.2.2.1⟩)
 rw[Gx (f:=fun x:Tv=>x.t) (q:=CH p)]at this;exact this
set_option maxRecDepth 100000 in
set_option maxHeartbeats 16000000 in
theorem QG9 (p:Bool) {v1 v2:Pv} {P Q:Prg} {w:World} {B B':Nat} (h1:B9 w B v1 P) (h2:B9 w B' v2 Q) (hs:GU P):Calls Tryz.prog 12 #[Hl v1,Hl v2,.bool p] w (AK (KL p P Q) w):=by
 obtain⟨A1,n1,m1,A2,n2,m2,A3,n3,m3,A4,n4,m4,A5,n5,m5,A6,n6,m6,rfl⟩:=h1.forms;obtain⟨C1,r1,s1,C2,r2,s2,C3,r3,s3,C4,r4,s4,C5,r5,s5,C6,r6,s6,rfl⟩:=h2.forms;have HP1:=AA h1;have HP2:=AA h2;have HSM:=AA hs;obtain⟨K1,hK1,hm1⟩:=h1.lines;obtain⟨M1,hM1,hq1⟩:=h2.lines;obtain⟨K6,hK6,hm6⟩:=h1.claims;obtain⟨M6,hM6,hq6⟩:=h2.claims;have e1:n1=K1.length:=by obtain⟨A,c,hv,_⟩:=hK1.reads;simp only[Value.slice.injEq]at hv;exact hv.2.1
 have e2:r1=M1.length:=by obtain⟨A,c,hv,_⟩:=hM1.reads;simp only[Value.slice.injEq]at hv;exact hv.2.1
 have e3:n6=K6.length:=by obtain⟨A,c,hv,_⟩:=hK6.reads;simp only[Value.slice.injEq]at hv;exact hv.2.1
 have e4:r6=M6.length:=by obtain⟨A,c,hv,_⟩:=hM6.reads;simp only[Value.slice.injEq]at hv;exact hv.2.1
 subst e1 e2 e3 e4;have hl1:K1.length<=10000:=by have:=hs.nl;rw[<-hm1,List.length_map]at this;exact this
 have hl6:K6.length<=10000:=by have:=hs.nc;rw[<-hm6,List.length_map]at this;exact this
 obtain⟨q1,hq1'⟩:∃q,Ae (fun x y:Lv=>Ae (CG p) x.l y.l) K1 M1=q:=⟨_,rfl⟩
 obtain⟨q6,hq6'⟩:∃q,Ae (fun x y:Cv=>GT p x.c y.c) K6 M6=q:=⟨_,rfl⟩
 obtain⟨q2,hq2⟩:∃q,Ae (CG p) P.vols Q.vols=q:=⟨_,rfl⟩
 obtain⟨q3,hq3⟩:∃q,Ae (CG p) P.locks Q.locks=q:=⟨_,rfl⟩
 obtain⟨q4,hq4⟩:∃q,Ae (CH p) P.threads Q.threads=q:=⟨_,rfl⟩
 obtain⟨q5,hq5⟩:∃q,Ae (CH p) P.recs Q.recs=q:=⟨_,rfl⟩
 have HV:Hid (KL p P Q=(q1&&q2&&q3&&q4&&q5&&q6)):=AA (by
  unfold KL;rw[hq2,hq3,hq4,hq5,<-hm1,<-hq1,<-hm6,<-hq6,<-Gx (f:=fun x:Lv=>x.l) (q:=Ae (CG p)),<-Gx (f:=fun x:Cv=>x.c) (q:=GT p),hq1',hq6'])
 have HQ1:=AA hq1';have HQ6:=AA hq6';have HK1:=AA hK1;have HM1:=AA hM1;have HK6:=AA hK6;have HM6:=AA hM6;have HSL:Hid (∀x∈K1,x.l.length<=10000):=AA (fun x hx=>(hs.lines x.l (by rw[<-hm1];exact List.mem_map_of_mem hx)).1);have HSC:Hid (∀x∈K6,x.c.e.length<=10000):=AA (fun x hx=>(hs.claims x.c (by rw[<-hm6];exact List.mem_map_of_mem hx)).2);have HC2:=AA (fun W' (hb:Below w.heap.size w W')=>((Um p (HP1.out.on hb).vols (HP2.out.on hb).vols HSM.out.nv).mono fun _ _ h=>h.tells))
 have HC3:=AA (fun W' (hb:Below w.heap.size w W')=>((Um p (HP1.out.on hb).locks (HP2.out.on hb).locks HSM.out.nk).mono fun _ _ h=>h.tells));have HC4:=AA (fun W' (hb:Below w.heap.size w W')=>(TF p (HP1.out.on hb).threads (HP2.out.on hb).threads HSM.out.nt HSM.out.threads));have HC5:=AA (fun W' (hb:Below w.heap.size w W')=>(TF p (HP1.out.on hb).recs (HP2.out.on hb).recs HSM.out.nr HSM.out.recs));rw[hq2]at HC2;rw[hq3]at HC3;rw[hq4]at HC4;rw[hq5]at HC5
 have h0:=A7 w (.cells #[.slice A1 K1.length m1,.slice A2 n2 m2,.slice A3 n3 m3,.slice A4 n4 m4,.slice A5 n5 m5,.slice A6 K6.length m6] 27) (.cells #[.slice C1 M1.length s1,.slice C2 r2 s2,.slice C3 r3 s3,.slice C4 r4 s4,.slice C5 r5 s5,.slice C6 M6.length s6] 27);have H0:=AA h0
 have N1:=AA (((Below.refl _ (w.alloc (.cells #[.slice A1 K1.length m1,.slice A2 n2 m2,.slice A3 n3 m3,.slice A4 n4 m4,.slice A5 n5 m5,.slice A6 K6.length m6] 27))).alloc (Nat.le_refl _) (.cells #[.slice C1 M1.length s1,.slice C2 r2 s2,.slice C3 r3 s3,.slice C4 r4 s4,.slice C5 r5 s5,.slice C6 M6.length s6] 27)).block w.heap.size (by simp) |>.trans (heap_alloc_new w (.cells #[.slice A1 K1.length m1,.slice A2 n2 m2,.slice A3 n3 m3,.slice A4 n4 m4,.slice A5 n5 m5,.slice A6 K6.length m6] 27)))
 have N2:=AA (heap_alloc2_new w (.cells #[.slice A1 K1.length m1,.slice A2 n2 m2,.slice A3 n3 m3,.slice A4 n4 m4,.slice A5 n5 m5,.slice A6 K6.length m6] 27) (.cells #[.slice C1 M1.length s1,.slice C2 r2 s2,.slice C3 r3 s3,.slice C4 r4 s4,.slice C5 r5 s5,.slice C6 M6.length s6] 27));clear h1 h2 hs hK1 hM1 hK6 hM6 hm1 hm6 hq1 hq6 hq1' hq6' hq2 hq3 hq4 hq5 h0;unfold Hl;go_enter Tryz.func12,Tryz.ntmps12;go_upto_region 1 with(fail)
 obtain⟨b,hb⟩:∃b,w.heap.size=b:=⟨_,rfl⟩
 obtain⟨d,hd⟩:∃d,b+1=d:=⟨_,rfl⟩
 have hsz:((w.alloc (.cells #[.slice A1 K1.length m1,.slice A2 n2 m2,.slice A3 n3 m3,.slice A4 n4 m4,.slice A5 n5 m5,.slice A6 K6.length m6] 27)).alloc (.cells #[.slice C1 M1.length s1,.slice C2 r2 s2,.slice C3 r3 s3,.slice C4 r4 s4,.slice C5 r5 s5,.slice C6 M6.length s6] 27)).heap.size=d+1:=by simp;omega
 generalize((w.alloc (.cells #[.slice A1 K1.length m1,.slice A2 n2 m2,.slice A3 n3 m3,.slice A4 n4 m4,.slice A5 n5 m5,.slice A6 K6.length m6] 27)).alloc (.cells #[.slice C1 M1.length s1,.slice C2 r2 s2,.slice C3 r3 s3,.slice C4 r4 s4,.slice C5 r5 s5,.slice C6 M6.length s6] 27))=X at *;rw[hb]at N1;rw[hb,hd]at N2;simp only[hb,hd];have HX:=AA (fun W' (hb':Below X.heap.size X W')=>And.intro (Ys ((hb'.block b (by omega)).trans N1.out)) (Ys ((hb'.block d (by omega)).trans N2.out)));obtain⟨⟨x0,x1,x2,x3,x4,x5⟩,⟨y0,y1,y2,y3,y4,y5⟩⟩:=HX.out X (Below.refl _ _);by_cases hn1:K1.length=M1.length
 ·by_cases hn6:K6.length=M6.length
  ·have hb1:((K1.length:Int) != (M1.length:Int))=false:=by simp;omega
   have hb6:((K6.length:Int) != (M6.length:Int))=false:=by simp;omega
   go_wp2_with fail
   go_loopw [7] (fun i wr=>∃k:Nat,k<=K1.length/\i=.int .i64 k/\Below X.heap.size X wr/\Ae (fun x y:Lv=>Ae (CG p) x.l y.l) (K1.take k) (M1.take k)=true) (fun i _=>K1.length-(intOf i).toNat)
   case atStart=>exact⟨0,Nat.zero_le _,rfl,Below.refl _ _,rfl⟩
   case round=>
    clear x0 x1 x2 x3 x4 x5 y0 y1 y2 y3 y4 y5;obtain⟨k,hk,rfl,hbel,hs⟩:=hrel;have HS:=AA hs;have HB:=AA hbel;clear hs;obtain⟨⟨x0,x1,x2,x3,x4,x5⟩,⟨y0,y1,y2,y3,y4,y5⟩⟩:=HX.out wr hbel;by_cases hlt:k<K1.length
    ·have hkm:k<M1.length:=by omega
     have ha:K1[k]?=some K1[k]:=List.getElem?_eq_getElem hlt;have hb':M1[k]?=some (M1[k]'hkm):=List.getElem?_eq_getElem hkm
     have hsl:=HSL.out K1[k] (List.getElem_mem hlt);have hwb:=AC H0.out hbel;have hs1:=(HK1.out.on hwb).sub K1[k] (List.getElem_mem hlt);have hs2:=(HM1.out.on hwb).sub (M1[k]'hkm) (List.getElem_mem hkm)
     generalize K1[k]=a at *;generalize M1[k]'hkm=bb at *
     obtain⟨A',c',hv,_,_,hr⟩:=(HK1.out.on hwb).reads;obtain⟨rfl,_,rfl⟩:A1=A'/\True/\m1=c':=by simpa using hv
     obtain⟨A'',c'',hv',_,_,hr'⟩:=(HM1.out.on hwb).reads;obtain⟨rfl,_,rfl⟩:C1=A''/\True/\s1=c'':=by simpa using hv'
     obtain⟨g,rfl,_,hg,_⟩:=hr k a ha;obtain⟨g',rfl,_,hg',_⟩:=hr' k bb hb';have HN:=AA (fun h=>DD (q:=fun x y:Lv=>Ae (CG p) x.l y.l) ha hb' h);have HY:=AA (Bz (q:=fun x y:Lv=>Ae (CG p) x.l y.l) ha hb');have l0:∀u:Later wr,u.W.cell? ⟨b,0,none⟩=some (.slice (some ⟨g,0,none⟩) K1.length m1):=fun u=>(HX.out u.W (AC hbel u.h)).1.1
     have l1:∀u:Later wr,u.W.cell? ⟨d,0,none⟩=some (.slice (some ⟨g',0,none⟩) M1.length s1):=fun u=>(HX.out u.W (AC hbel u.h)).2.1
     have l2:∀u:Later wr,u.W.cell? ⟨g,k,none⟩=some a.v:=fun u=>QFo (HK1.out.on (AC hwb u.h)) ha
     have l3:∀u:Later wr,u.W.cell? ⟨g',k,none⟩=some bb.v:=fun u=>QFo (HM1.out.on (AC hwb u.h)) hb'
     obtain⟨V,hV⟩:∃V,Ae (CG p) a.l bb.l=V:=⟨_,rfl⟩
     have HZV:=AA hV;have HCC:=AA (fun W' (hb:Below wr.heap.size wr W')=>(Um p (hs1.on hb) (hs2.on hb) hsl).mono fun _ _ h=>h.tells);rw[hV]at HCC;obtain⟨AR,cR,hvR, -⟩:=hs1.reads;obtain⟨BR,dR,hvR', -⟩:=hs2.reads;rw[hvR]at l2 HCC;rw[hvR']at l3 HCC;have hkI0:(0:Int)<=(k:Int):=by omega
     have hkI1:(k:Int)<(K1.length:Int):=by omega
     have hkI2:(k:Int)<(M1.length:Int):=by omega
     generalize a.l.length=na at *;generalize bb.l.length=nb at *;clear ha hb' hs1 hs2 hv hv' hr hr' hV hvR hvR' hbel hwb hsl;go_upto_region 6 with(fail)
     clear x0 x1 x2 x3 x4 x5 y0 y1 y2 y3 y4 y5;refine C9 (by kernel_rfl) (by kernel_rfl) ?_;repeat(go_big_quiet_step ((refine(HCC.out _ (Later.on _)).mono ?_;rintro e1 w1 ⟨rfl,hb1⟩;exact⟨rfl,Later.mk w1 (AC (Later.on _) hb1),rfl⟩)))
     refine wpQuiet_nil ?_;rintro _ ⟨⟨w1,B1⟩,rfl⟩;clear l0 l1 l2 l3 HCC;cases V with
     |false=>
      have HF:Hid (q1=false):=AA (by rw[<-HQ1.out];exact HN.out HZV.out);go_wp2_with fail
      go_ret;exact⟨AH (by rw[HV.out,HF.out];simp),AC H0.out (AC HB.out B1)⟩
     |true=>
      have HZ:=AA HZV.out;go_wp2_with fail
      go_roundw;case rel=>exact⟨k+1,by omega,by go_num,AC HB.out B1,by rw[HY.out,HS.out,HZ.out];rfl⟩
      case measure=>simp[intOf];omega
    ·have HT1:Hid (q1=true):=AA (by rw[<-HQ1.out];exact Cb (by omega) hn1 HS.out);have HBL:=AA hbel;clear hbel HS HQ1 HK1 HM1 HSL;go_wp2_with fail
     clear x0 x1 x2 x3 x4 x5 y0 y1 y2 y3 y4 y5;go_loopw [8] (fun i wr=>∃k:Nat,k<=K6.length/\i=.int .i64 k/\Below X.heap.size X wr/\Ae (fun x y:Cv=>GT p x.c y.c) (K6.take k) (M6.take k)=true) (fun i _=>K6.length-(intOf i).toNat)
     case atStart=>exact⟨0,Nat.zero_le _,rfl,HBL.out,rfl⟩
     case round=>
      clear HB HBL;obtain⟨k,hk,rfl,hbel,hs⟩:=hrel;have HS:=AA hs;have HB:=AA hbel;clear hs;obtain⟨⟨x0,x1,x2,x3,x4,x5⟩,⟨y0,y1,y2,y3,y4,y5⟩⟩:=HX.out wr hbel;by_cases hlt:k<K6.length
      ·have hkm:k<M6.length:=by omega
       have ha:K6[k]?=some K6[k]:=List.getElem?_eq_getElem hlt;have hb':M6[k]?=some (M6[k]'hkm):=List.getElem?_eq_getElem hkm
       have hsl:=HSC.out K6[k] (List.getElem_mem hlt);have hwb:=AC H0.out hbel;have hs1:=(HK6.out.on hwb).sub K6[k] (List.getElem_mem hlt);have hs2:=(HM6.out.on hwb).sub (M6[k]'hkm) (List.getElem_mem hkm)
       generalize K6[k]=a at *;generalize M6[k]'hkm=bb at *
       obtain⟨A',c',hv,_,_,hr⟩:=(HK6.out.on hwb).reads;obtain⟨rfl,_,rfl⟩:A6=A'/\True/\m6=c':=by simpa using hv
       obtain⟨A'',c'',hv',_,_,hr'⟩:=(HM6.out.on hwb).reads;obtain⟨rfl,_,rfl⟩:C6=A''/\True/\s6=c'':=by simpa using hv'
       obtain⟨g,rfl,_,hg,_⟩:=hr k a ha;obtain⟨g',rfl,_,hg',_⟩:=hr' k bb hb';have HN:=AA (fun h=>DD (q:=fun x y:Cv=>GT p x.c y.c) ha hb' h);have HY:=AA (Bz (q:=fun x y:Cv=>GT p x.c y.c) ha hb');have l0:∀u:Later wr,u.W.cell? ⟨b,5,none⟩=some (.slice (some ⟨g,0,none⟩) K6.length m6):=fun u=>(HX.out u.W (AC hbel u.h)).1.2.2.2.2.2
       have l1:∀u:Later wr,u.W.cell? ⟨d,5,none⟩=some (.slice (some ⟨g',0,none⟩) M6.length s6):=fun u=>(HX.out u.W (AC hbel u.h)).2.2.2.2.2.2
       have l2:∀u:Later wr,u.W.cell? ⟨g,k*2,none⟩=some a.vE:=fun u=>(Yt (HK6.out.on (AC hwb u.h)) ha).1
       have l3:∀u:Later wr,u.W.cell? ⟨g',k*2,none⟩=some bb.vE:=fun u=>(Yt (HM6.out.on (AC hwb u.h)) hb').1
       have l4:∀u:Later wr,u.W.cell? ⟨g,k*2+1,none⟩=some (.int .i64 a.c.pl):=fun u=>(Yt (HK6.out.on (AC hwb u.h)) ha).2
       have l5:∀u:Later wr,u.W.cell? ⟨g',k*2+1,none⟩=some (.int .i64 bb.c.pl):=fun u=>(Yt (HM6.out.on (AC hwb u.h)) hb').2
       obtain⟨V,hV⟩:∃V,E9 p a.c.e bb.c.e=V:=⟨_,rfl⟩
       have HZV:=AA hV;have HCC:=AA (fun W' (hb:Below wr.heap.size wr W')=>(Yq p a.vE bb.vE a.c.e bb.c.e W' (hs1.rd.on hb) (hs2.rd.on hb) hsl).mono fun _ _ h=>h.tells);rw[hV]at HCC;obtain⟨AR,cR,hvR, -⟩:=hs1.rd;obtain⟨BR,dR,hvR', -⟩:=hs2.rd;rw[hvR]at l2 HCC;rw[hvR']at l3 HCC;have hkI0:(0:Int)<=(k:Int):=by omega
       have hkI1:(k:Int)<(K6.length:Int):=by omega
       have hkI2:(k:Int)<(M6.length:Int):=by omega
       generalize a.c.e.length=na at *;generalize bb.c.e.length=nb at *;clear ha hb' hs1 hs2 hv hv' hr hr' hV hvR hvR' hbel hwb hsl;cases V with
       |false=>
        have HF:Hid (q6=false):=AA (by rw[<-HQ6.out];exact HN.out (by unfold GT;rw[HZV.out];rfl));go_upto_region 11 with(fail)
        clear x0 x1 x2 x3 x4 x5 y0 y1 y2 y3 y4 y5;refine C9 (by kernel_rfl) (by kernel_rfl) ?_;repeat(go_big_quiet_step ((refine(HCC.out _ (Later.on _)).mono ?_;rintro e1 w1 ⟨rfl,hb1⟩;exact⟨rfl,Later.mk w1 (AC (Later.on _) hb1),rfl⟩)))
        refine wpQuiet_nil ?_;rintro _ ⟨⟨w1,B1⟩,rfl⟩;clear l0 l1 l2 l3 l4 l5 HCC;go_wp2_with fail
        go_ret;exact⟨AH (by rw[HV.out,HF.out];simp),AC H0.out (AC HB.out B1)⟩
       |true=>
        cases p with
        |false=>
         have HZ:Hid (GT false a.c bb.c=true):=AA (by unfold GT;rw[HZV.out];rfl);go_upto_region 11 with(fail)
         clear x0 x1 x2 x3 x4 x5 y0 y1 y2 y3 y4 y5;refine C9 (by kernel_rfl) (by kernel_rfl) ?_;repeat(go_big_quiet_step ((refine(HCC.out _ (Later.on _)).mono ?_;rintro e1 w1 ⟨rfl,hb1⟩;exact⟨rfl,Later.mk w1 (AC (Later.on _) hb1),rfl⟩)))
         refine wpQuiet_nil ?_;rintro _ ⟨⟨w1,B1⟩,rfl⟩;clear l0 l1 l2 l3 l4 l5 HCC;go_wp2_with fail
         go_roundw;case rel=>exact⟨k+1,by omega,by go_num,AC HB.out B1,by rw[HY.out,HS.out,HZ.out];rfl⟩
         case measure=>simp[intOf];omega
        |true=>
         cases e3:(a.c.pl != bb.c.pl)with
         |true=>
          have HF:Hid (q6=false):=AA (by rw[<-HQ6.out];exact HN.out (by unfold GT;rw[HZV.out];simp at e3;simp[e3]));go_upto_region 11 with(fail)
          clear x0 x1 x2 x3 x4 x5 y0 y1 y2 y3 y4 y5;refine C9 (by kernel_rfl) (by kernel_rfl) ?_;repeat(go_big_quiet_step ((refine(HCC.out _ (Later.on _)).mono ?_;rintro e1 w1 ⟨rfl,hb1⟩;exact⟨rfl,Later.mk w1 (AC (Later.on _) hb1),rfl⟩)))
          refine wpQuiet_nil ?_;rintro _ ⟨⟨w1,B1⟩,rfl⟩;clear l0 l1 l2 l3 l4 l5 HCC;go_wp2_with fail
          go_ret;exact⟨AH (by rw[HV.out,HF.out];simp),AC H0.out (AC HB.out B1)⟩
         |false=>
          have HZ:Hid (GT true a.c bb.c=true):=AA (by unfold GT;rw[HZV.out];simp at e3;simp[e3]);go_upto_region 11 with(fail)
          clear x0 x1 x2 x3 x4 x5 y0 y1 y2 y3 y4 y5;refine C9 (by kernel_rfl) (by kernel_rfl) ?_;repeat(go_big_quiet_step ((refine(HCC.out _ (Later.on _)).mono ?_;rintro e1 w1 ⟨rfl,hb1⟩;exact⟨rfl,Later.mk w1 (AC (Later.on _) hb1),rfl⟩)))
          refine wpQuiet_nil ?_;rintro _ ⟨⟨w1,B1⟩,rfl⟩;clear l0 l1 l2 l3 l4 l5 HCC;go_wp2_with fail
          go_roundw;case rel=>exact⟨k+1,by omega,by go_num,AC HB.out B1,by rw[HY.out,HS.out,HZ.out];rfl⟩
          case measure=>simp[intOf];omega
      ·have HT6:Hid (q6=true):=AA (by rw[<-HQ6.out];exact Cb (by omega) hn6 HS.out);have HBL:=AA hbel;clear hbel HS HQ6 HK6 HM6 HSC HB HP1 HP2 HSM;cases q2 with
       |false=>
        go_upto_region 13 with(fail)
        refine wp_region_lit ?_;go_wp2_with fail
        refine(HC2.out _ (AC H0.out (HBL.out))).mono ?_;rintro r2 w2 ⟨rfl,hq2⟩;have hb2:=AC (HBL.out) hq2;go_wp2_with fail
        go_ret;exact⟨AH (by rw[HV.out,HT1.out,HT6.out];rfl),AC H0.out hb2⟩
       |true=>
        cases q3 with
        |false=>
         go_upto_region 13 with(fail)
         refine wp_region_lit ?_;go_wp2_with fail
         refine(HC2.out _ (AC H0.out (HBL.out))).mono ?_;rintro r2 w2 ⟨rfl,hq2⟩;have hb2:=AC (HBL.out) hq2;clear x0 x1 x2 x3 x4 x5 y0 y1 y2 y3 y4 y5;obtain⟨⟨x0,x1,x2,x3,x4,x5⟩,⟨y0,y1,y2,y3,y4,y5⟩⟩:=HX.out _ hb2;go_wp2_with fail
         refine(HC3.out _ (AC H0.out (hb2))).mono ?_;rintro r3 w3 ⟨rfl,hq3⟩;have hb3:=AC (hb2) hq3;go_wp2_with fail
         go_ret;exact⟨AH (by rw[HV.out,HT1.out,HT6.out];rfl),AC H0.out hb3⟩
        |true=>
         cases q4 with
         |false=>
          go_upto_region 13 with(fail)
          refine wp_region_lit ?_;go_wp2_with fail
          refine(HC2.out _ (AC H0.out (HBL.out))).mono ?_;rintro r2 w2 ⟨rfl,hq2⟩;have hb2:=AC (HBL.out) hq2;clear x0 x1 x2 x3 x4 x5 y0 y1 y2 y3 y4 y5;obtain⟨⟨x0,x1,x2,x3,x4,x5⟩,⟨y0,y1,y2,y3,y4,y5⟩⟩:=HX.out _ hb2;go_wp2_with fail
          refine(HC3.out _ (AC H0.out (hb2))).mono ?_;rintro r3 w3 ⟨rfl,hq3⟩;have hb3:=AC (hb2) hq3;clear x0 x1 x2 x3 x4 x5 y0 y1 y2 y3 y4 y5;obtain⟨⟨x0,x1,x2,x3,x4,x5⟩,⟨y0,y1,y2,y3,y4,y5⟩⟩:=HX.out _ hb3;go_wp2_with fail
          refine(HC4.out _ (AC H0.out (hb3))).mono ?_;rintro r4 w4 ⟨rfl,hq4⟩;have hb4:=AC (hb3) hq4;go_wp2_with fail
          go_ret;exact⟨AH (by rw[HV.out,HT1.out,HT6.out];rfl),AC H0.out hb4⟩
         |true=>
          cases q5 with
          |false=>
           go_upto_region 13 with(fail)
           refine wp_region_lit ?_;go_wp2_with fail
           refine(HC2.out _ (AC H0.out (HBL.out))).mono ?_;rintro r2 w2 ⟨rfl,hq2⟩;have hb2:=AC (HBL.out) hq2;clear x0 x1 x2 x3 x4 x5 y0 y1 y2 y3 y4 y5;obtain⟨⟨x0,x1,x2,x3,x4,x5⟩,⟨y0,y1,y2,y3,y4,y5⟩⟩:=HX.out _ hb2;go_wp2_with fail
           refine(HC3.out _ (AC H0.out (hb2))).mono ?_;rintro r3 w3 ⟨rfl,hq3⟩;have hb3:=AC (hb2) hq3;clear x0 x1 x2 x3 x4 x5 y0 y1 y2 y3 y4 y5;obtain⟨⟨x0,x1,x2,x3,x4,x5⟩,⟨y0,y1,y2,y3,y4,y5⟩⟩:=HX.out _ hb3;go_wp2_with fail
           refine(HC4.out _ (AC H0.out (hb3))).mono ?_;rintro r4 w4 ⟨rfl,hq4⟩;have hb4:=AC (hb3) hq4;clear x0 x1 x2 x3 x4 x5 y0 y1 y2 y3 y4 y5;obtain⟨⟨x0,x1,x2,x3,x4,x5⟩,⟨y0,y1,y2,y3,y4,y5⟩⟩:=HX.out _ hb4;go_wp2_with fail
           refine(HC5.out _ (AC H0.out (hb4))).mono ?_;rintro r5 w5 ⟨rfl,hq5⟩;have hb5:=AC (hb4) hq5;go_wp2_with fail
           go_ret;exact⟨AH (by rw[HV.out,HT1.out,HT6.out];rfl),AC H0.out hb5⟩
          |true=>
           go_upto_region 13 with(fail)
           refine wp_region_lit ?_;go_wp2_with fail
           refine(HC2.out _ (AC H0.out (HBL.out))).mono ?_;rintro r2 w2 ⟨rfl,hq2⟩;have hb2:=AC (HBL.out) hq2;clear x0 x1 x2 x3 x4 x5 y0 y1 y2 y3 y4 y5;obtain⟨⟨x0,x1,x2,x3,x4,x5⟩,⟨y0,y1,y2,y3,y4,y5⟩⟩:=HX.out _ hb2;go_wp2_with fail
           refine(HC3.out _ (AC H0.out (hb2))).mono ?_;rintro r3 w3 ⟨rfl,hq3⟩;have hb3:=AC (hb2) hq3;clear x0 x1 x2 x3 x4 x5 y0 y1 y2 y3 y4 y5;obtain⟨⟨x0,x1,x2,x3,x4,x5⟩,⟨y0,y1,y2,y3,y4,y5⟩⟩:=HX.out _ hb3;go_wp2_with fail
           refine(HC4.out _ (AC H0.out (hb3))).mono ?_;rintro r4 w4 ⟨rfl,hq4⟩;have hb4:=AC (hb3) hq4;clear x0 x1 x2 x3 x4 x5 y0 y1 y2 y3 y4 y5;obtain⟨⟨x0,x1,x2,x3,x4,x5⟩,⟨y0,y1,y2,y3,y4,y5⟩⟩:=HX.out _ hb4;go_wp2_with fail
           refine(HC5.out _ (AC H0.out (hb4))).mono ?_;rintro r5 w5 ⟨rfl,hq5⟩;have hb5:=AC (hb4) hq5;go_wp2_with fail
           go_ret;exact⟨AH (by rw[HV.out,HT1.out,HT6.out];rfl),AC H0.out hb5⟩
  ·have hb1:((K1.length:Int) != (M1.length:Int))=false:=by simp;omega
   have hb6:((K6.length:Int) != (M6.length:Int))=true:=by simp;omega
   have HF:Hid (q6=false):=AA (by rw[<-HQ6.out];exact CZ hn6);clear hn1 hn6;go_wp2_with fail
   go_ret;exact⟨AH (by rw[HV.out,HF.out];simp),H0.out⟩
 ·have hb1:((K1.length:Int) != (M1.length:Int))=true:=by simp;omega
  have HF:Hid (q1=false):=AA (by rw[<-HQ1.out];exact CZ hn1);clear hn1;go_wp2_with fail
  go_ret;exact⟨AH (by rw[HV.out,HF.out];simp),H0.out⟩
end Go.Proofs.YthfkpalfopdmhaaGreatDoor
