/- Texts of the walk, packed. -/
import Derived.Test.YthfkpalfopdmhaaGreatDoorW47
import Derived.Test.YthfkpalfopdmhaaGreatDoorW46
import Derived.Test.YthfkpalfopdmhaaGreatDoorW00
namespace Go.Proofs.YthfkpalfopdmhaaGreatDoor
open Go.RowKit
theorem QDS (w:World):Below w.heap.size w (w.alloc (.cells #[.slice none 0 0,.slice none 0 0,.slice none 0 0,.slice none 0 0,.slice none 0 0,.slice none 0 0] 27)).drew:=AC ((Below.refl _ _).alloc (Nat.le_refl _) _) (AD _)
theorem QDT (w:World):(w.alloc (.cells #[.slice none 0 0,.slice none 0 0,.slice none 0 0,.slice none 0 0,.slice none 0 0,.slice none 0 0] 27)).drew.heap[w.heap.size]?=some (.cells #[.slice none 0 0,.slice none 0 0,.slice none 0 0,.slice none 0 0,.slice none 0 0,.slice none 0 0] 27):=heap_alloc_new w _
theorem QG7 (w:World):w.heap.size<(w.alloc (.cells #[.slice none 0 0,.slice none 0 0,.slice none 0 0,.slice none 0 0,.slice none 0 0,.slice none 0 0] 27)).drew.heap.size:=(Array.getElem?_eq_some_iff.1 (QDT w)).1
theorem QFK {X w:World} {d:Nat} (h:Below X.heap.size X w) (hd:X.heap.size<=d) (u0 u1 u2 u3 u4 u5:Value):Below X.heap.size X ((((((w.setCell ⟨d,0,none⟩ u0).setCell ⟨d,1,none⟩ u1).setCell ⟨d,2,none⟩ u2).setCell ⟨d,3,none⟩ u3).setCell ⟨d,4,none⟩ u4).setCell ⟨d,5,none⟩ u5):=
 h.trans ((Ny w u0 u1 u2 u3 u4 u5).below (fun k hk e=>by omega) h.size)
theorem QDU {X w:World} {d:Nat} {o:Obj} (_:w.heap[d]?=some o) (h:Below X.heap.size X w) (hd:X.heap.size<=d) (u0 u1 u2 u3 u4 u5:Value):Below X.heap.size X ((((((w.setCell ⟨d,0,none⟩ u0).setCell ⟨d,1,none⟩ u1).setCell ⟨d,2,none⟩ u2).setCell ⟨d,3,none⟩ u3).setCell ⟨d,4,none⟩ u4).setCell ⟨d,5,none⟩ u5):=QFK h hd u0 u1 u2 u3 u4 u5
def WH (b l:Nat) (w w':World):Prop:=w'.heap[b]?=w.heap[b]?/\w'.heap[l]?=w.heap[l]?
theorem Iz {P:Nat->Prop} {b l:Nat} {w w':World} (hk:AG P w w') (hb:b<w.heap.size) (hl:l<w.heap.size) (h1:¬P b) (h2:¬P l):WH b l w w':=⟨hk.block b hb h1,hk.block l hl h2⟩
theorem WH.go5 {b l:Nat} {w w1 w2:World} (h:WH b l w w1) (k:WH b l w1 w2):WH b l w w2:=⟨k.1.trans h.1,k.2.trans h.2⟩
theorem WH.al5 {b l:Nat} {w w1:World} {o:Obj} (h:WH b l w w1) (hb:Below w.heap.size w w1) (h1:b<w.heap.size) (h2:l<w.heap.size):WH b l w (w1.alloc o):=
 h.go5 (Iz (AG.of (P:=fun _=>False) ((Below.refl _ _).alloc (Nat.le_refl _) o)) (Nat.lt_of_lt_of_le h1 hb.size) (Nat.lt_of_lt_of_le h2 hb.size) id id)
theorem WH.gr5 {b l:Nat} {w w1 w5:World} {o:Obj} {v:Value} (h:WH b l w w1) (hb:Below w.heap.size w w1) (h1:b<w.heap.size) (h2:l<w.heap.size) (hg:(w1.alloc o).grownBy w5 v.ownBlock) (hn:∀q,v.ownBlock=some q->q≠b/\q≠l):WH b l w w5:=
 h.go5 (Iz (Cd ((Below.refl _ _).alloc (Nat.le_refl _) o) (AG.grown hg)) (Nat.lt_of_lt_of_le h1 hb.size) (Nat.lt_of_lt_of_le h2 hb.size) (fun e=>(hn b e).1 rfl) (fun e=>(hn l e).2 rfl))
theorem WH.st5 {b l d j:Nat} {w w5:World} {v:Value} (h:WH b l w w5) (hb:b≠d) (hl:l≠d) (h1:b<w5.heap.size) (h2:l<w5.heap.size):WH b l w (w5.setCell ⟨d,j,none⟩ v):=h.go5 (Iz AG.set h1 h2 hb hl)
theorem QDV {w:World} {N T m n:Nat} {v:Value} {xs:List Value} {o:Obj} (h:w.ownsRow N T m v n xs):(w.alloc o).ownsRow N T m v n xs:=AO (P:=fun _=>False) h (AG.of ((Below.refl _ _).alloc (Nat.le_refl _) o)) (fun _ _ h=>h)
theorem Yp {w w5:World} {g j:Nat} {kv v:Value} {o:Obj} (hg:(w.alloc o).grownBy w5 kv.ownBlock) (hkv:∀q,kv.ownBlock=some q->q≠g) (hl:g<w.heap.size) (c:w.cell? ⟨g,j,none⟩=some v) (f:w.frozen? ⟨g,j,none⟩=false):w5.cell? ⟨g,j,none⟩=some v/\w5.frozen? ⟨g,j,none⟩=false:=by
 have hb:Below w.heap.size w (w.alloc o):=(Below.refl _ _).alloc (Nat.le_refl _) o;have e:=hg.block g (Nat.lt_of_lt_of_le hl hb.size) (fun e=>hkv g e.symm rfl);have e2:=hb.block g hl;exact⟨by rw[World.cell?_of_block (a:=⟨g,j,none⟩) (e.trans e2)];exact c,by rw[World.frozen?_of_block (a:=⟨g,j,none⟩) (e.trans e2)];exact f⟩
theorem QG8 {A:Option Addr} {n c:Nat}:∀u∈[Value.slice A n c],u.oneCell'=true:=by
 intro u hu;simp at hu;subst hu;rfl
set_option maxRecDepth 100000 in
set_option maxHeartbeats 64000000 in
theorem QDW (p:MR) (w:World) (hA:QAI w p):Calls Tryz.prog 14 #[QAJ p] w (fun e w'=>∃u,e=.returned (Hl u)/\B9 w' w.heap.size u (Nj p)/\Below w.heap.size w w'):=by
 obtain⟨aL,nL,cL,rL,aV,nV,cV,rV,aK,nK,cK,rK,aT,nT,cT,rT,aO,nO,cO,rO,aM,nM,cM,rM⟩:=p;have HP:=AA hA;have h0:=A7 w (.cells #[.slice aL nL cL,.slice aV nV cV,.slice aK nK cK,.slice aT nT cT,.slice aO nO cO,.slice aM nM cM] 27) (.cells #[.slice none 0 0,.slice none 0 0,.slice none 0 0,.slice none 0 0,.slice none 0 0,.slice none 0 0] 27);have H0:=AA h0
 have N1:=AA (((Below.refl _ (w.alloc (.cells #[.slice aL nL cL,.slice aV nV cV,.slice aK nK cK,.slice aT nT cT,.slice aO nO cO,.slice aM nM cM] 27))).alloc (Nat.le_refl _) (.cells #[.slice none 0 0,.slice none 0 0,.slice none 0 0,.slice none 0 0,.slice none 0 0,.slice none 0 0] 27)).block w.heap.size (by simp) |>.trans (heap_alloc_new w (.cells #[.slice aL nL cL,.slice aV nV cV,.slice aK nK cK,.slice aT nT cT,.slice aO nO cO,.slice aM nM cM] 27)))
 have N2:=AA (heap_alloc2_new w (.cells #[.slice aL nL cL,.slice aV nV cV,.slice aK nK cK,.slice aT nT cT,.slice aO nO cO,.slice aM nM cM] 27) (.cells #[.slice none 0 0,.slice none 0 0,.slice none 0 0,.slice none 0 0,.slice none 0 0,.slice none 0 0] 27));clear hA h0;unfold QAJ;go_enter Tryz.func14,Tryz.ntmps14;go_upto_region 1 with(fail)
 have hsz:((w.alloc (.cells #[.slice aL nL cL,.slice aV nV cV,.slice aK nK cK,.slice aT nT cT,.slice aO nO cO,.slice aM nM cM] 27)).alloc (.cells #[.slice none 0 0,.slice none 0 0,.slice none 0 0,.slice none 0 0,.slice none 0 0,.slice none 0 0] 27)).heap.size=w.heap.size+2:=by simp
 generalize((w.alloc (.cells #[.slice aL nL cL,.slice aV nV cV,.slice aK nK cK,.slice aT nT cT,.slice aO nO cO,.slice aM nM cM] 27)).alloc (.cells #[.slice none 0 0,.slice none 0 0,.slice none 0 0,.slice none 0 0,.slice none 0 0,.slice none 0 0] 27))=X at *;have HSZ:=AA hsz;clear hsz
 go_cut [3]from 6 to 18 (fun t wj=>∃dd:Nat,t=.pointer (some ⟨dd,0,none⟩)/\AtQ w ⟨aL,nL,cL,rL,aV,nV,cV,rV,aK,nK,cK,rK,aT,nT,cT,rT,aO,nO,cO,rO,aM,nM,cM,rM⟩ dd 0 0 wj)
 case first=>
  have hltb:w.heap.size<X.heap.size:=by have:=HSZ.out;omega
  have hltr:w.heap.size+1<X.heap.size:=by have:=HSZ.out;omega
  have HC2:=AA (fun W' (hb:Below X.heap.size X W')=>Oi aV nV cV rV W' (HP.out.on (AC H0.out hb)).v);have HC3:=AA (fun W' (hb:Below X.heap.size X W')=>Oi aK nK cK rK W' (HP.out.on (AC H0.out hb)).k);have HC4:=AA (fun W' (hb:Below X.heap.size X W')=>PG aT nT cT rT W' (HP.out.on (AC H0.out hb)).t);have HC5:=AA (fun W' (hb:Below X.heap.size X W')=>PG aO nO cO rO W' (HP.out.on (AC H0.out hb)).o);have HX:=AA (fun W' (hb:Below X.heap.size X W')=>KV ((hb.block w.heap.size hltb).trans N1.out));have S0:=HX.out X (Below.refl _ _);have S0d:=HX.out _ (AD X)
  have S0A:=HX.out _ (QDS X);go_wp2_with fail
  go_region_held3 (fun w'=>w'.cell? ⟨w.heap.size,0,none⟩=some (.slice aL nL cL)/\w'.cell? ⟨w.heap.size,1,none⟩=some (.slice aV nV cV)/\w'.cell? ⟨w.heap.size,2,none⟩=some (.slice aK nK cK)/\w'.cell? ⟨w.heap.size,3,none⟩=some (.slice aT nT cT)/\w'.cell? ⟨w.heap.size,4,none⟩=some (.slice aO nO cO)/\w'.cell? ⟨w.heap.size,5,none⟩=some (.slice aM nM cM)) (with_reducible assumption)
  (first
  |(go_at_call_of 33 (Value.slice aV nV cV);refine(HC2.out _ (by first|exact Below.refl _ _|exact AD _|exact QDS X)).mono ?_;rintro e2 w2 ⟨v2,rfl,o2,hb2⟩;obtain⟨D2,p2,q2,rfl⟩:=o2.form;have B2:Below X.heap.size X w2:=(by first|exact hb2|exact AC (AD _) hb2|exact AC (QDS X) hb2);have S2:=HX.out w2 B2;have S2A:=HX.out _ (B2.alloc B2.size (.cells #[.slice none 0 0,.slice none 0 0,.slice none 0 0,.slice none 0 0,.slice none 0 0,.slice none 0 0] 27));(first|have bx2:=(hb2.block X.heap.size (QG7 X)).trans (QDT X)|skip))
  |(go_at_call_of 33 (Value.slice aK nK cK);refine(HC3.out _ (by first|exact B2|exact AC B2 (AD _)|exact B2.alloc B2.size _)).mono ?_;rintro e3 w3 ⟨v3,rfl,o3,hb3⟩;obtain⟨D3,p3,q3,rfl⟩:=o3.form;have B3:Below X.heap.size X w3:=(by first|exact AC B2 hb3|exact AC (AC B2 (AD _)) hb3|exact AC (AC B2 ((Below.refl _ _).alloc (Nat.le_refl _) _)) hb3);have S3:=HX.out w3 B3;have S3A:=HX.out _ (B3.alloc B3.size (.cells #[.slice none 0 0,.slice none 0 0,.slice none 0 0,.slice none 0 0,.slice none 0 0,.slice none 0 0] 27));(first|have bx3:=(hb3.block _ (Array.getElem?_eq_some_iff.1 bx2).1).trans bx2|have bx3:=(hb3.block w2.heap.size (by simp)).trans (heap_alloc_new w2 (.cells #[.slice none 0 0,.slice none 0 0,.slice none 0 0,.slice none 0 0,.slice none 0 0,.slice none 0 0] 27))|skip))
  |(go_at_call_of 34 (Value.slice aT nT cT);refine(HC4.out _ (by first|exact B3|exact AC B3 (AD _)|exact B3.alloc B3.size _)).mono ?_;rintro e4 w4 ⟨v4,rfl,o4,hb4⟩;obtain⟨D4,p4,q4,rfl⟩:=o4.form;have B4:Below X.heap.size X w4:=(by first|exact AC B3 hb4|exact AC (AC B3 (AD _)) hb4|exact AC (AC B3 ((Below.refl _ _).alloc (Nat.le_refl _) _)) hb4);have S4:=HX.out w4 B4;have S4A:=HX.out _ (B4.alloc B4.size (.cells #[.slice none 0 0,.slice none 0 0,.slice none 0 0,.slice none 0 0,.slice none 0 0,.slice none 0 0] 27));(first|have bx4:=(hb4.block _ (Array.getElem?_eq_some_iff.1 bx3).1).trans bx3|have bx4:=(hb4.block w3.heap.size (by simp)).trans (heap_alloc_new w3 (.cells #[.slice none 0 0,.slice none 0 0,.slice none 0 0,.slice none 0 0,.slice none 0 0,.slice none 0 0] 27))|skip))
  |(go_at_call_of 34 (Value.slice aO nO cO);refine(HC5.out _ (by first|exact B4|exact AC B4 (AD _)|exact B4.alloc B4.size _)).mono ?_;rintro e5 w5 ⟨v5,rfl,o5,hb5⟩;obtain⟨D5,p5,q5,rfl⟩:=o5.form;have B5:Below X.heap.size X w5:=(by first|exact AC B4 hb5|exact AC (AC B4 (AD _)) hb5|exact AC (AC B4 ((Below.refl _ _).alloc (Nat.le_refl _) _)) hb5);have S5:=HX.out w5 B5;have S5A:=HX.out _ (B5.alloc B5.size (.cells #[.slice none 0 0,.slice none 0 0,.slice none 0 0,.slice none 0 0,.slice none 0 0,.slice none 0 0] 27));(first|have bx5:=(hb5.block _ (Array.getElem?_eq_some_iff.1 bx4).1).trans bx4|have bx5:=(hb5.block w4.heap.size (by simp)).trans (heap_alloc_new w4 (.cells #[.slice none 0 0,.slice none 0 0,.slice none 0 0,.slice none 0 0,.slice none 0 0,.slice none 0 0] 27))|skip);have S5B:=HX.out _ (B5.alloc B5.size (.cells #[.slice none 0 0,.slice D2 p2 q2,.slice D3 p3 q3,.slice D4 p4 q4,.slice D5 p5 q5,.slice none 0 0] 27));(first|(have y:=KV bx5;obtain⟨y0,y1,y2,y3,y4,y5⟩:=y;have k0:=Lib.frozen_of_heap bx5 0;have k1:=Lib.frozen_of_heap bx5 1;have k2:=Lib.frozen_of_heap bx5 2;have k3:=Lib.frozen_of_heap bx5 3;have k4:=Lib.frozen_of_heap bx5 4;have k5:=Lib.frozen_of_heap bx5 5;have S6:=HX.out _ (QDU bx5 B5 (by first|exact Nat.le_refl _|exact B2.size|exact B3.size|exact B4.size) (.slice none 0 0) (.slice D2 p2 q2) (.slice D3 p3 q3) (.slice D4 p4 q4) (.slice D5 p5 q5) (.slice none 0 0)))|skip)))
  all_goals
   have s0:=HSZ.out;have s2:=B2.size;have s3:=B3.size;have s4:=B4.size;have e23:Below w2.heap.size w2 w3:=by first|exact hb3|exact AC ((Below.refl _ _).alloc (Nat.le_refl _) _) hb3
   have e34:Below w3.heap.size w3 w4:=by first|exact hb4|exact AC ((Below.refl _ _).alloc (Nat.le_refl _) _) hb4
   have e45:Below w4.heap.size w4 w5:=by first|exact hb5|exact AC ((Below.refl _ _).alloc (Nat.le_refl _) _) hb5
   have O2:=o2.on (AC e23 (AC e34 e45));have O3:=o3.on (AC e34 e45);have O4:=o4.on e45;have NB:=(B5.block _ hltb).trans N1.out;have NR:=(B5.block _ hltr).trans N2.out;have HQ:Hid (AtQ _ _ _ _ _ _):=AA (by
    first
    |exact QG5 (p:=⟨aL,nL,cL,rL,aV,nV,cV,rV,aK,nK,cK,rK,aT,nT,cT,rT,aO,nO,cO,rO,aM,nM,cM,rM⟩) (AC H0.out B5) NB NR (by omega) bx5 O2 O3 O4 o5 ⟨by first|omega|(simp;omega),by first|omega|(simp;omega),by first|omega|(simp;omega),by first|omega|(simp;omega)⟩
    |exact QG6 (p:=⟨aL,nL,cL,rL,aV,nV,cV,rV,aK,nK,cK,rK,aT,nT,cT,rT,aO,nO,cO,rO,aM,nM,cM,rM⟩) (AC H0.out B5) NB NR O2 O3 O4 o5 ⟨by first|omega|(simp;omega),by first|omega|(simp;omega),by first|omega|(simp;omega),by first|omega|(simp;omega)⟩)
   clear s0 s2 s3 s4 e23 e34 e45 O2 O3 O4 NB NR;go_wp2_with fail
   go_meet;case rel=>exact⟨_,rfl,HQ.out⟩
 case rest=>
  obtain⟨dd,rfl,hat⟩:=hcut;have HAT:=AA hat;clear hat;obtain⟨i0,hi0,hz0,hz1,hz2⟩:=info_parts Yd;have HZ:=AA (show Tryz.prog.info? 23=some i0/\i0.zero=some (.slice none 0 0)/\i0.size=1/\i0.bytes=24 from⟨hi0,hz0,hz1,hz2⟩);obtain⟨i1,hi1,hy0,hy1,hy2⟩:=info_parts Yf;have HY:=AA (show Tryz.prog.info? 50=some i1/\i1.zero=some (.agg #[.slice none 0 0,.int .i64 0])/\i1.size=2/\i1.bytes=32 from⟨hi1,hy0,hy1,hy2⟩);clear hi0 hz0 hz1 hz2 hi1 hy0 hy1 hy2;go_upto_region 2 with(fail)
  go_cut [4]from 4 to 4 (fun t wx=>t=.int .i64 0/\wx=wc)
  case first=>
   go_wp2_with fail
   go_meet;case rel=>exact⟨rfl,rfl⟩
  case rest=>
   obtain⟨rfl,rfl⟩:=hcut
   rename_i KK hKK
   refine hKK _ _ ?_
   go_cut []from 19 to 40 (fun wy=>AtQ w ⟨aL,nL,cL,rL,aV,nV,cV,rV,aK,nK,cK,rK,aT,nT,cT,rT,aO,nO,cO,rO,aM,nM,cM,rM⟩ dd (min nL 6) 0 wy)
   case first=>
    go_wp2_with fail
    go_loopw [4] (fun x wj=>∃i:Nat,i<=nL/\i<=6/\x=.int .i64 i/\AtQ w ⟨aL,nL,cL,rL,aV,nV,cV,rV,aK,nK,cK,rK,aT,nT,cT,rT,aO,nO,cO,rO,aM,nM,cM,rM⟩ dd i 0 wj) (fun x _=>6-(intOf x).toNat)
    case atStart=>exact⟨0,Nat.zero_le _,Nat.zero_le _,rfl,HAT.out⟩
    case round=>
     obtain⟨i,hin,hi6,rfl,hat⟩:=hrel;obtain⟨wj,hwj0⟩:∃x:World,x=wr:=⟨_,rfl⟩
     subst hwj0;obtain⟨u,hbox⟩:=hat;have HBX:=AA hbox;have Q0:=(KV hbox.bx).1;by_cases hlt:i<nL
     ·by_cases hi5:i<6
      ·obtain⟨lb,lo,hAL,hbl,s0,hAC⟩:=(HP.out.on hbox.low).l i hlt;simp only at hAL s0 hAC;subst hAL;have HC:=AA (fun W' (hb:Below wj.heap.size wj W')=>Oi (rL i).A (rL i).n (rL i).c (rL i).R W' (hAC.on hb));obtain⟨K,hK,hm⟩:=hbox.own.lines;have HK:=AA hK;have HM:=AA hm;have HKL:Hid (K.length=i):=AA (by have:=congrArg List.length hm;rw[List.length_map]at this;rw[this];exact Oa _ _);obtain⟨A0,c0,hua, -, -, -⟩:=hK.reads;have q0:wj.cell? ⟨dd,0,none⟩=some (.slice A0 K.length c0):=by rw[<-hua,Lib.cell_of_heap hbox.cs];rfl
       have f0:wj.frozen? ⟨dd,0,none⟩=false:=Lib.frozen_of_heap hbox.cs 0;have hld:dd<wj.heap.size:=(Array.getElem?_eq_some_iff.1 hbox.cs).1;have hj0:(0:Int)<=(i:Int):=by omega
       have hj1:(i:Int)<(nL:Int):=by omega
       have HNO:Hid (∀q,(Value.slice A0 K.length c0).ownBlock=some q->q≠dd):=AA (fun q hq e=>by
        rw[<-hua]at hq;obtain⟨_,cs,h5⟩:=AI HK.out.row q hq;rw[e,HBX.out.cs]at h5;simp at h5)
       have HUA:=AA hua;have HROW:Hid (wj.ownsRow w.heap.size 23 1 (.slice A0 K.length c0) K.length (K.map (·.v))):=AA (by rw[<-hua];exact hK.row);have HSW:=AA hbox.low.size;have HDL:Hid (w.heap.size+1<dd):=AA hbox.dx;have hlw:w.heap.size<wj.heap.size:=(Array.getElem?_eq_some_iff.1 hbox.bx).1;have hlbw:lb<w.heap.size:=by obtain⟨b3,o3,h1,h2,_⟩:=HP.out.l i hlt;simp only[Option.some.injEq,Addr.mk.injEq]at h1;omega
       have HLB:Hid (w.heap.size<wj.heap.size/\lb<wj.heap.size):=AA ⟨hlw,by omega⟩;have HDB:Hid (w.heap.size≠dd/\lb≠dd):=AA (by have:=hbox.dx;omega);have HNB:Hid (∀q,(Value.slice A0 K.length c0).ownBlock=some q->q≠w.heap.size/\q≠lb):=AA (fun q hq=>by
        rw[<-hua]at hq;obtain⟨h1,cs,h5⟩:=AI HK.out.row q hq;refine⟨fun e=>?_,by omega⟩;rw[e,HBX.out.bx]at h5;simp at h5)
       have HSS:=AA (fun W' (h:WH w.heap.size lb wj W')=>(show W'.cell? ⟨w.heap.size,0,none⟩=some (.slice (some ⟨lb,lo,none⟩) nL cL)/\W'.cell? ⟨lb,lo+i,none⟩=some (.slice (rL i).A (rL i).n (rL i).c)from⟨(World.cell?_of_block (a:=⟨w.heap.size,0,none⟩) h.1).trans Q0,(World.cell?_of_block (a:=⟨lb,lo+i,none⟩) h.2).trans s0⟩));have S0:=HSS.out wj.drew ⟨rfl,rfl⟩;clear hbox hAC hK hm hua s0 hlw hlbw hbl;go_upto_region 5 with(fail)
       refine Md (fun J2 hJ2=>?_)
       go_cut []from 19 to 40 (fun wy=>AtQ w ⟨some ⟨lb,lo,none⟩,nL,cL,rL,aV,nV,cV,rV,aK,nK,cK,rK,aT,nT,cT,rT,aO,nO,cO,rO,aM,nM,cM,rM⟩ dd (i+1) 0 wy)
       case first=>
        go_wp2_with fail
        refine wp_region_held_drew (S:=(fun w'=>w'.cell? ⟨w.heap.size,0,none⟩=some (.slice (some ⟨lb,lo,none⟩) nL cL)/\w'.cell? ⟨lb,lo+i,none⟩=some (.slice (rL i).A (rL i).n (rL i).c))) (by kernel_rfl) (S0) (fun hH=>?_);refine JD (v:=?_) 0 rfl (by kernel_rfl) (fun _ _ _ h=>h) hH (by rfl) ?_ ?_
        rotate_left
        ·(rintro wq ⟨s0,s1⟩;go_simp<;>with_reducible rfl)
        refine JD (v:=?_) 2 rfl (by kernel_rfl) (fun _ _ _ h=>h) hH (by rfl) ?_ ?_
        rotate_left
        ·(rintro wq ⟨s0,s1⟩;go_simp<;>with_reducible rfl)
        refine JD (v:=?_) 3 rfl (by kernel_rfl) (fun _ _ _ h=>h) hH (by rfl) ?_ ?_
        rotate_left
        ·(rintro wq ⟨s0,s1⟩;go_simp<;>with_reducible rfl)
        try simp only[Act.put,List.setIfInBounds_toArray,List.set_cons_zero,List.set_cons_succ]
        refine JD (v:=?_) 4 rfl (by kernel_rfl) (fun _ _ _ h=>h) hH (by rfl) ?_ ?_
        rotate_left
        ·(rintro wq ⟨s0,s1⟩;go_simp<;>with_reducible rfl)
        refine JD (v:=?_) 5 rfl (by kernel_rfl) (fun _ _ _ h=>h) hH (by rfl) ?_ ?_
        rotate_left
        ·(rintro wq ⟨s0,s1⟩;go_simp<;>with_reducible rfl)
        refine JD (v:=?_) 6 rfl (by kernel_rfl) (fun _ _ _ h=>h) hH (by rfl) ?_ ?_
        rotate_left
        ·(rintro wq ⟨s0,s1⟩;go_simp<;>with_reducible rfl)
        try simp only[Act.put,List.setIfInBounds_toArray,List.set_cons_zero,List.set_cons_succ]
        try simp only[Act.put,List.setIfInBounds_toArray,List.set_cons_zero,List.set_cons_succ]
        refine wpAnyH_ready (rs:=[1,7]) (by kernel_rfl) (by simp) ?_;refine AllReadyH.cons (EM rfl) (fun Kq hKq=>?_) ?_
        focus
         go_simp
         refine hKq.out _ _ ?_ (fun hH=>?_)
         ·with_reducible assumption
         clear hKq Kq;try simp only[Act.put,List.setIfInBounds_toArray,List.set_cons_zero,List.set_cons_succ]
         try simp only[Act.put,List.setIfInBounds_toArray,List.set_cons_zero,List.set_cons_succ]
         refine wpAnyH_ready (rs:=[7]) (by kernel_rfl) (by simp) ?_;refine AllReadyH.cons (EM rfl) (fun Kq hKq=>?_) ?_
         focus
          (go_simp;go_at_call_of 33 (Value.slice (rL i).A (rL i).n (rL i).c);refine(HC.out _ (AD _)).mono ?_;rintro e1 w1 ⟨v1,rfl,o1,hb1⟩;obtain⟨DC,pC,qC,rfl⟩:=o1.form;have HE1:Hid (Below wj.heap.size wj w1):=AA (AC (AD _) hb1);have hl1:dd<w1.heap.size:=Nat.lt_of_lt_of_le hld HE1.out.size;have q1:=(HE1.out.cell (p:=⟨dd,0,none⟩) hld).trans q0;have f1:=(HE1.out.frozen (p:=⟨dd,0,none⟩) hld).trans f0;have HROW1:=AA (AO (P:=fun _=>False) HROW.out (AG.of HE1.out) (fun _ _=>id));have T1:=Iz (AG.of (P:=fun _=>False) HE1.out) HLB.out.1 HLB.out.2 id id;have S1:=HSS.out w1 T1;have S1A:=HSS.out (w1.alloc (.cells #[.slice DC pC qC] 23)) (T1.al5 HE1.out HLB.out.1 HLB.out.2))
          try go_simp
          refine hKq.out _ _ ?_ (fun hH=>?_)
          ·with_reducible assumption
          clear hKq Kq;try simp only[Act.put,List.setIfInBounds_toArray,List.set_cons_zero,List.set_cons_succ]
          try simp only[Act.put,List.setIfInBounds_toArray,List.set_cons_zero,List.set_cons_succ]
          refine wpAnyH_ready (rs:=[8]) (by kernel_rfl) (by simp) ?_;refine AllReadyH.cons (EM rfl) (fun Kq hKq=>?_) ?_
          focus
           go_simp
           refine hKq.out _ _ ?_ (fun hH=>?_)
           ·with_reducible assumption
           clear hKq Kq;try simp only[Act.put,List.setIfInBounds_toArray,List.set_cons_zero,List.set_cons_succ]
           try simp only[Act.put,List.setIfInBounds_toArray,List.set_cons_zero,List.set_cons_succ]
          rotate_left
          exact AllReadyH.nil
         rotate_left
         exact AllReadyH.nil
        rotate_left
        refine AllReadyH.cons (EM rfl) (fun Kq hKq=>?_) ?_
        focus
         (go_simp;go_at_call_of 33 (Value.slice (rL i).A (rL i).n (rL i).c);refine(HC.out _ (AD _)).mono ?_;rintro e1 w1 ⟨v1,rfl,o1,hb1⟩;obtain⟨DC,pC,qC,rfl⟩:=o1.form;have HE1:Hid (Below wj.heap.size wj w1):=AA (AC (AD _) hb1);have hl1:dd<w1.heap.size:=Nat.lt_of_lt_of_le hld HE1.out.size;have q1:=(HE1.out.cell (p:=⟨dd,0,none⟩) hld).trans q0;have f1:=(HE1.out.frozen (p:=⟨dd,0,none⟩) hld).trans f0;have HROW1:=AA (AO (P:=fun _=>False) HROW.out (AG.of HE1.out) (fun _ _=>id));have T1:=Iz (AG.of (P:=fun _=>False) HE1.out) HLB.out.1 HLB.out.2 id id;have S1:=HSS.out w1 T1;have S1A:=HSS.out (w1.alloc (.cells #[.slice DC pC qC] 23)) (T1.al5 HE1.out HLB.out.1 HLB.out.2))
         try go_simp
         refine hKq.out _ _ ?_ (fun hH=>?_)
         ·with_reducible assumption
         clear hKq Kq;try simp only[Act.put,List.setIfInBounds_toArray,List.set_cons_zero,List.set_cons_succ]
         try simp only[Act.put,List.setIfInBounds_toArray,List.set_cons_zero,List.set_cons_succ]
         refine wpAnyH_ready (rs:=[1,8]) (by kernel_rfl) (by simp) ?_;refine AllReadyH.cons (EM rfl) (fun Kq hKq=>?_) ?_
         focus
          go_simp
          refine hKq.out _ _ ?_ (fun hH=>?_)
          ·with_reducible assumption
          clear hKq Kq;try simp only[Act.put,List.setIfInBounds_toArray,List.set_cons_zero,List.set_cons_succ]
          try simp only[Act.put,List.setIfInBounds_toArray,List.set_cons_zero,List.set_cons_succ]
          refine wpAnyH_ready (rs:=[8]) (by kernel_rfl) (by simp) ?_;refine AllReadyH.cons (EM rfl) (fun Kq hKq=>?_) ?_
          focus
           go_simp
           refine hKq.out _ _ ?_ (fun hH=>?_)
           ·with_reducible assumption
           clear hKq Kq;try simp only[Act.put,List.setIfInBounds_toArray,List.set_cons_zero,List.set_cons_succ]
           try simp only[Act.put,List.setIfInBounds_toArray,List.set_cons_zero,List.set_cons_succ]
          rotate_left
          exact AllReadyH.nil
         rotate_left
         refine AllReadyH.cons (EM rfl) (fun Kq hKq=>?_) ?_
         focus
          go_simp
          refine hKq.out _ _ ?_ (fun hH=>?_)
          ·with_reducible assumption
          clear hKq Kq;try simp only[Act.put,List.setIfInBounds_toArray,List.set_cons_zero,List.set_cons_succ]
          try simp only[Act.put,List.setIfInBounds_toArray,List.set_cons_zero,List.set_cons_succ]
          refine wpAnyH_ready (rs:=[1]) (by kernel_rfl) (by simp) ?_;refine AllReadyH.cons (EM rfl) (fun Kq hKq=>?_) ?_
          focus
           go_simp
           refine hKq.out _ _ ?_ (fun hH=>?_)
           ·with_reducible assumption
           clear hKq Kq;try simp only[Act.put,List.setIfInBounds_toArray,List.set_cons_zero,List.set_cons_succ]
           try simp only[Act.put,List.setIfInBounds_toArray,List.set_cons_zero,List.set_cons_succ]
          rotate_left
          exact AllReadyH.nil
         rotate_left
         exact AllReadyH.nil
        rotate_left
        rotate_left
        exact AllReadyH.nil;all_goals
         try simp only[Act.put,List.setIfInBounds_toArray,List.set_cons_zero,List.set_cons_succ]
         refine wpAnyH_ready (rs:=[9]) (by kernel_rfl) (by simp) ?_;refine AllReadyH.cons (EM rfl) (fun Kq hKq=>?_) ?_
         focus
          (refine step_append_lies _ rfl (.tmp 31) (.tmp 38) 22 rfl w.heap.size 23 i0 (.slice none 0 0) 1 24 Tryz.underlying22 HZ.out.1 HZ.out.2.1 HZ.out.2.2.1 HZ.out.2.2.2 rfl (by decide) (.slice A0 K.length c0) K.length (K.map (·.v)) (by rfl) (QDV HROW1.out) ⟨w1.heap.size,0,none⟩ 1 1 [.slice DC pC qC] (by rfl) (by rfl) (World.news_of_block (cs:=#[.slice DC pC qC]) (heap_alloc_new w1 _)) QG8 (by decide) (by have:=HKL.out;unfold maxLen;omega) (by have:=HKL.out;omega) (by have:=HSW.out;have:=HE1.out.size;simp;omega) (w1.heap.size+1) (by simp) ?_;intro g5 cap w5 hown5 hgrow5 hat5 hlt5;obtain⟨d5,e5⟩:=Yp hgrow5 HNO.out hl1 q1 f1;have hg5:dd<w5.heap.size:=Nat.lt_of_lt_of_le hl1 (Nat.le_trans (by simp) hgrow5.size);have ATM:=AA (HBX.out.line HK.out HM.out HE1.out o1 (Nat.le_refl _) (by rw[HUA.out];exact hgrow5) hown5);have T5:=T1.gr5 HE1.out HLB.out.1 HLB.out.2 hgrow5 (HNB.out);have SB5:=HSS.out w5 T5;have SC5:=HSS.out (w5.setCell ⟨dd,0,none⟩ (.slice (some ⟨g5,0,none⟩) (K.length+1) cap)) (T5.st5 HDB.out.1 HDB.out.2 (Nat.lt_of_lt_of_le HLB.out.1 (Nat.le_trans HE1.out.size (Nat.le_trans (by simp) hgrow5.size))) (Nat.lt_of_lt_of_le HLB.out.2 (Nat.le_trans HE1.out.size (Nat.le_trans (by simp) hgrow5.size)))))
          try go_simp
          refine hKq.out _ _ ?_ (fun hH=>?_)
          ·with_reducible assumption
          clear hKq Kq;try simp only[Act.put,List.setIfInBounds_toArray,List.set_cons_zero,List.set_cons_succ]
          refine JD (v:=?_) 10 rfl (by kernel_rfl) (fun _ _ _ h=>h) hH (by rfl) ?_ ?_
          rotate_left
          ·(rintro wq ⟨s0,s1⟩;go_simp<;>with_reducible rfl)
          try simp only[Act.put,List.setIfInBounds_toArray,List.set_cons_zero,List.set_cons_succ]
          refine wpAnyH_ready (rs:=[11]) (by kernel_rfl) (by simp) ?_;refine AllReadyH.cons (EM rfl) (fun Kq hKq=>?_) ?_
          focus
           go_simp
           refine hKq.out _ _ ?_ (fun hH=>?_)
           ·with_reducible assumption
           clear hKq Kq;try simp only[Act.put,List.setIfInBounds_toArray,List.set_cons_zero,List.set_cons_succ]
           refine wpAnyH_done (by kernel_rfl) ?_ _;go_wp2_with fail
           go_meet;case rel=>exact ATM.out
          exact AllReadyH.nil
         exact AllReadyH.nil
       case rest=>
        refine hJ2 _ _ ?_;have HCT:=AA hcut;clear hcut hJ2 S0;go_wp2_with fail
        go_roundw;case rel=>exact⟨i+1,by omega,by omega,by go_num,HCT.out⟩
        case measure=>simp[intOf];omega
      ·have HE:Hid (min nL 6=i):=AA (by omega);clear hbox;go_wp2_with fail
       go_meet;case rel=>rw[HE.out];exact⟨_,HBX.out⟩
     ·have HE:Hid (min nL 6=i):=AA (by omega);clear hbox;go_wp2_with fail
      go_meet;case rel=>rw[HE.out];exact⟨_,HBX.out⟩
   case rest=>
    have HAT2:=AA hcut;clear hcut HAT
    rename_i KK2 hKK2 wz2
    refine hKK2 _ _ ?_;clear hKK2 hKK KK2;go_upto_region 6 with(fail)
    go_cut [5]from 5 to 5 (fun t wx=>t=.int .i64 0/\wx=wc)
    case first=>
     go_wp2_with fail
     go_meet;case rel=>exact⟨rfl,rfl⟩
    case rest=>
     obtain⟨rfl,rfl⟩:=hcut
     rename_i KK3 hKK3
     refine hKK3 _ _ ?_;clear hKK3 KK3
     go_cut []from 41 to 70 (fun wy=>AtQ w ⟨aL,nL,cL,rL,aV,nV,cV,rV,aK,nK,cK,rK,aT,nT,cT,rT,aO,nO,cO,rO,aM,nM,cM,rM⟩ dd (min nL 6) (min nM 6) wy)
     case first=>
      go_wp2_with fail
      go_loopw [5] (fun x wj=>∃j:Nat,j<=nM/\j<=6/\x=.int .i64 j/\AtQ w ⟨aL,nL,cL,rL,aV,nV,cV,rV,aK,nK,cK,rK,aT,nT,cT,rT,aO,nO,cO,rO,aM,nM,cM,rM⟩ dd (min nL 6) j wj) (fun x _=>6-(intOf x).toNat)
      case atStart=>exact⟨0,Nat.zero_le _,Nat.zero_le _,rfl,HAT2.out⟩
      case round=>
       obtain⟨j,hin,hi6,rfl,hat⟩:=hrel;obtain⟨wj,hwj0⟩:∃x:World,x=wr:=⟨_,rfl⟩
       subst hwj0;obtain⟨u,hbox⟩:=hat;have HBX:=AA hbox;have Q0:=(KV hbox.bx).2.2.2.2.2;by_cases hlt:j<nM
       ·by_cases hi5:j<6
        ·obtain⟨lb,lo,hAL,hbl,s0,s1,hAC⟩:=(HP.out.on hbox.low).m j hlt;simp only at hAL s0 s1 hAC;subst hAL;have HC:=AA (fun W' (hb:Below wj.heap.size wj W')=>T9 (rM j).AE (rM j).nE (rM j).cE (rM j).RE W' (hAC.on hb));obtain⟨K,hK,hm⟩:=hbox.own.claims;have HK:=AA hK;have HM:=AA hm;have HKL:Hid (K.length=j):=AA (by have:=congrArg List.length hm;rw[List.length_map]at this;rw[this];exact Ob _ _);obtain⟨A0,c0,hua, -, -, -⟩:=hK.reads;have q0:wj.cell? ⟨dd,5,none⟩=some (.slice A0 K.length c0):=by rw[<-hua,Lib.cell_of_heap hbox.cs];rfl
         have f0:wj.frozen? ⟨dd,5,none⟩=false:=Lib.frozen_of_heap hbox.cs 5;have hld:dd<wj.heap.size:=(Array.getElem?_eq_some_iff.1 hbox.cs).1;have hj0:(0:Int)<=(j:Int):=by omega
         have hj1:(j:Int)<(nM:Int):=by omega
         have HNO:Hid (∀q,(Value.slice A0 K.length c0).ownBlock=some q->q≠dd):=AA (fun q hq e=>by
          rw[<-hua]at hq;obtain⟨_,cs,h5⟩:=AI HK.out.row q hq;rw[e,HBX.out.cs]at h5;simp at h5)
         have HUA:=AA hua;have HROW:Hid (wj.ownsRow w.heap.size 50 2 (.slice A0 K.length c0) K.length (K.flatMap Ed)):=AA (by rw[<-hua];exact hK.row);have HSW:=AA hbox.low.size;have hlw:w.heap.size<wj.heap.size:=(Array.getElem?_eq_some_iff.1 hbox.bx).1;have hlbw:lb<w.heap.size:=by obtain⟨b3,o3,h1,h2,_⟩:=HP.out.m j hlt;simp only[Option.some.injEq,Addr.mk.injEq]at h1;omega
         have HLB:Hid (w.heap.size<wj.heap.size/\lb<wj.heap.size):=AA ⟨hlw,by omega⟩;have HDB:Hid (w.heap.size≠dd/\lb≠dd):=AA (by have:=hbox.dx;omega);have HNB:Hid (∀q,(Value.slice A0 K.length c0).ownBlock=some q->q≠w.heap.size/\q≠lb):=AA (fun q hq=>by
          rw[<-hua]at hq;obtain⟨h1,cs,h5⟩:=AI HK.out.row q hq;refine⟨fun e=>?_,by omega⟩;rw[e,HBX.out.bx]at h5;simp at h5)
         have HSS:=AA (fun W' (h:WH w.heap.size lb wj W')=>(show W'.cell? ⟨w.heap.size,5,none⟩=some (.slice (some ⟨lb,lo,none⟩) nM cM)/\W'.cell? ⟨lb,lo+j*2,none⟩=some (.slice (rM j).AE (rM j).nE (rM j).cE)/\W'.cell? ⟨lb,lo+j*2+1,none⟩=some (.int .i64 (rM j).pl)from⟨(World.cell?_of_block (a:=⟨w.heap.size,5,none⟩) h.1).trans Q0,(World.cell?_of_block (a:=⟨lb,lo+j*2,none⟩) h.2).trans s0,(World.cell?_of_block (a:=⟨lb,lo+j*2+1,none⟩) h.2).trans s1⟩));have S0:=HSS.out wj.drew ⟨rfl,rfl⟩;clear hbox hAC hK hm hua s0 s1 hlw hlbw hbl;go_upto_region 9 with(fail)
         refine Md (fun J2 hJ2=>?_)
         go_cut []from 41 to 70 (fun wy=>AtQ w ⟨aL,nL,cL,rL,aV,nV,cV,rV,aK,nK,cK,rK,aT,nT,cT,rT,aO,nO,cO,rO,some ⟨lb,lo,none⟩,nM,cM,rM⟩ dd (min nL 6) (j+1) wy)
         case first=>
          go_wp2_with fail
          refine wp_region_held_drew (S:=(fun w'=>w'.cell? ⟨w.heap.size,5,none⟩=some (.slice (some ⟨lb,lo,none⟩) nM cM)/\w'.cell? ⟨lb,lo+j*2,none⟩=some (.slice (rM j).AE (rM j).nE (rM j).cE)/\w'.cell? ⟨lb,lo+j*2+1,none⟩=some (.int .i64 (rM j).pl))) (by kernel_rfl) (S0) (fun hH=>?_);refine JD (v:=?_) 0 rfl (by kernel_rfl) (fun _ _ _ h=>h) hH (by rfl) ?_ ?_
          rotate_left
          ·(rintro wq ⟨s0,s1,s2⟩;go_simp<;>with_reducible rfl)
          refine JD (v:=?_) 2 rfl (by kernel_rfl) (fun _ _ _ h=>h) hH (by rfl) ?_ ?_
          rotate_left
          ·(rintro wq ⟨s0,s1,s2⟩;go_simp<;>with_reducible rfl)
          refine JD (v:=?_) 3 rfl (by kernel_rfl) (fun _ _ _ h=>h) hH (by rfl) ?_ ?_
          rotate_left
          ·(rintro wq ⟨s0,s1,s2⟩;go_simp<;>with_reducible rfl)
          try simp only[Act.put,List.setIfInBounds_toArray,List.set_cons_zero,List.set_cons_succ]
          refine JD (v:=?_) 4 rfl (by kernel_rfl) (fun _ _ _ h=>h) hH (by rfl) ?_ ?_
          rotate_left
          ·(rintro wq ⟨s0,s1,s2⟩;go_simp<;>with_reducible rfl)
          refine JD (v:=?_) 5 rfl (by kernel_rfl) (fun _ _ _ h=>h) hH (by rfl) ?_ ?_
          rotate_left
          ·(rintro wq ⟨s0,s1,s2⟩;go_simp<;>with_reducible rfl)
          refine JD (v:=?_) 6 rfl (by kernel_rfl) (fun _ _ _ h=>h) hH (by rfl) ?_ ?_
          rotate_left
          ·(rintro wq ⟨s0,s1,s2⟩;go_simp<;>with_reducible rfl)
          try simp only[Act.put,List.setIfInBounds_toArray,List.set_cons_zero,List.set_cons_succ]
          refine JD (v:=?_) 7 rfl (by kernel_rfl) (fun _ _ _ h=>h) hH (by rfl) ?_ ?_
          rotate_left
          ·(rintro wq ⟨s0,s1,s2⟩;go_simp<;>with_reducible rfl)
          refine JD (v:=?_) 9 rfl (by kernel_rfl) (fun _ _ _ h=>h) hH (by rfl) ?_ ?_
          rotate_left
          ·(rintro wq ⟨s0,s1,s2⟩;go_simp<;>with_reducible rfl)
          refine JD (v:=?_) 10 rfl (by kernel_rfl) (fun _ _ _ h=>h) hH (by rfl) ?_ ?_
          rotate_left
          ·(rintro wq ⟨s0,s1,s2⟩;go_simp<;>with_reducible rfl)
          try simp only[Act.put,List.setIfInBounds_toArray,List.set_cons_zero,List.set_cons_succ]
          refine JD (v:=?_) 11 rfl (by kernel_rfl) (fun _ _ _ h=>h) hH (by rfl) ?_ ?_
          rotate_left
          ·(rintro wq ⟨s0,s1,s2⟩;go_simp<;>with_reducible rfl)
          refine JD (v:=?_) 12 rfl (by kernel_rfl) (fun _ _ _ h=>h) hH (by rfl) ?_ ?_
          rotate_left
          ·(rintro wq ⟨s0,s1,s2⟩;go_simp<;>with_reducible rfl)
          refine JD (v:=?_) 13 rfl (by kernel_rfl) (fun _ _ _ h=>h) hH (by rfl) ?_ ?_
          rotate_left
          ·(rintro wq ⟨s0,s1,s2⟩;go_simp<;>with_reducible rfl)
          try simp only[Act.put,List.setIfInBounds_toArray,List.set_cons_zero,List.set_cons_succ]
          refine JD (v:=?_) 14 rfl (by kernel_rfl) (fun _ _ _ h=>h) hH (by rfl) ?_ ?_
          rotate_left
          ·(rintro wq ⟨s0,s1,s2⟩;go_simp<;>with_reducible rfl)
          try simp only[Act.put,List.setIfInBounds_toArray,List.set_cons_zero,List.set_cons_succ]
          refine wpAnyH_ready (rs:=[1,8]) (by kernel_rfl) (by simp) ?_;refine AllReadyH.cons (EM rfl) (fun Kq hKq=>?_) ?_
          focus
           go_simp
           refine hKq.out _ _ ?_ (fun hH=>?_)
           ·with_reducible assumption
           clear hKq Kq;try simp only[Act.put,List.setIfInBounds_toArray,List.set_cons_zero,List.set_cons_succ]
           try simp only[Act.put,List.setIfInBounds_toArray,List.set_cons_zero,List.set_cons_succ]
           refine wpAnyH_ready (rs:=[8]) (by kernel_rfl) (by simp) ?_;refine AllReadyH.cons (EM rfl) (fun Kq hKq=>?_) ?_
           focus
            (go_simp;go_at_call_of 35 (Value.slice (rM j).AE (rM j).nE (rM j).cE);refine(HC.out _ (AD _)).mono ?_;rintro e1 w1 ⟨v1,rfl,o1,hb1⟩;obtain⟨DC,pC,qC,rfl⟩:=Eh o1;have HE1:Hid (Below wj.heap.size wj w1):=AA (AC (AD _) hb1);have hl1:dd<w1.heap.size:=Nat.lt_of_lt_of_le hld HE1.out.size;have q1:=(HE1.out.cell (p:=⟨dd,5,none⟩) hld).trans q0;have f1:=(HE1.out.frozen (p:=⟨dd,5,none⟩) hld).trans f0;have HROW1:=AA (AO (P:=fun _=>False) HROW.out (AG.of HE1.out) (fun _ _=>id));have T1:=Iz (AG.of (P:=fun _=>False) HE1.out) HLB.out.1 HLB.out.2 id id;have S1:=HSS.out w1 T1;have S1A:=HSS.out (w1.alloc (.cells #[.slice DC pC qC,.int .i64 (rM j).pl] 50)) (T1.al5 HE1.out HLB.out.1 HLB.out.2))
            try go_simp
            refine hKq.out _ _ ?_ (fun hH=>?_)
            ·with_reducible assumption
            clear hKq Kq;try simp only[Act.put,List.setIfInBounds_toArray,List.set_cons_zero,List.set_cons_succ]
            refine JD (v:=?_) 15 rfl (by kernel_rfl) (fun _ _ _ h=>h) hH (by rfl) ?_ ?_
            rotate_left
            ·(rintro wq ⟨s0,s1,s2⟩;go_simp<;>with_reducible rfl)
            try simp only[Act.put,List.setIfInBounds_toArray,List.set_cons_zero,List.set_cons_succ]
            refine wpAnyH_ready (rs:=[16]) (by kernel_rfl) (by simp) ?_;refine AllReadyH.cons (EM rfl) (fun Kq hKq=>?_) ?_
            focus
             go_simp
             refine hKq.out _ _ ?_ (fun hH=>?_)
             ·with_reducible assumption
             clear hKq Kq;try simp only[Act.put,List.setIfInBounds_toArray,List.set_cons_zero,List.set_cons_succ]
             try simp only[Act.put,List.setIfInBounds_toArray,List.set_cons_zero,List.set_cons_succ]
            rotate_left
            exact AllReadyH.nil
           rotate_left
           exact AllReadyH.nil
          rotate_left
          refine AllReadyH.cons (EM rfl) (fun Kq hKq=>?_) ?_
          focus
           (go_simp;go_at_call_of 35 (Value.slice (rM j).AE (rM j).nE (rM j).cE);refine(HC.out _ (AD _)).mono ?_;rintro e1 w1 ⟨v1,rfl,o1,hb1⟩;obtain⟨DC,pC,qC,rfl⟩:=Eh o1;have HE1:Hid (Below wj.heap.size wj w1):=AA (AC (AD _) hb1);have hl1:dd<w1.heap.size:=Nat.lt_of_lt_of_le hld HE1.out.size;have q1:=(HE1.out.cell (p:=⟨dd,5,none⟩) hld).trans q0;have f1:=(HE1.out.frozen (p:=⟨dd,5,none⟩) hld).trans f0;have HROW1:=AA (AO (P:=fun _=>False) HROW.out (AG.of HE1.out) (fun _ _=>id));have T1:=Iz (AG.of (P:=fun _=>False) HE1.out) HLB.out.1 HLB.out.2 id id;have S1:=HSS.out w1 T1;have S1A:=HSS.out (w1.alloc (.cells #[.slice DC pC qC,.int .i64 (rM j).pl] 50)) (T1.al5 HE1.out HLB.out.1 HLB.out.2))
           try go_simp
           refine hKq.out _ _ ?_ (fun hH=>?_)
           ·with_reducible assumption
           clear hKq Kq;try simp only[Act.put,List.setIfInBounds_toArray,List.set_cons_zero,List.set_cons_succ]
           refine JD (v:=?_) 15 rfl (by kernel_rfl) (fun _ _ _ h=>h) hH (by rfl) ?_ ?_
           rotate_left
           ·(rintro wq ⟨s0,s1,s2⟩;go_simp<;>with_reducible rfl)
           try simp only[Act.put,List.setIfInBounds_toArray,List.set_cons_zero,List.set_cons_succ]
           try simp only[Act.put,List.setIfInBounds_toArray,List.set_cons_zero,List.set_cons_succ]
           refine wpAnyH_ready (rs:=[1,16]) (by kernel_rfl) (by simp) ?_;refine AllReadyH.cons (EM rfl) (fun Kq hKq=>?_) ?_
           focus
            go_simp
            refine hKq.out _ _ ?_ (fun hH=>?_)
            ·with_reducible assumption
            clear hKq Kq;try simp only[Act.put,List.setIfInBounds_toArray,List.set_cons_zero,List.set_cons_succ]
            try simp only[Act.put,List.setIfInBounds_toArray,List.set_cons_zero,List.set_cons_succ]
            refine wpAnyH_ready (rs:=[16]) (by kernel_rfl) (by simp) ?_;refine AllReadyH.cons (EM rfl) (fun Kq hKq=>?_) ?_
            focus
             go_simp
             refine hKq.out _ _ ?_ (fun hH=>?_)
             ·with_reducible assumption
             clear hKq Kq;try simp only[Act.put,List.setIfInBounds_toArray,List.set_cons_zero,List.set_cons_succ]
             try simp only[Act.put,List.setIfInBounds_toArray,List.set_cons_zero,List.set_cons_succ]
            rotate_left
            exact AllReadyH.nil
           rotate_left
           refine AllReadyH.cons (EM rfl) (fun Kq hKq=>?_) ?_
           focus
            go_simp
            refine hKq.out _ _ ?_ (fun hH=>?_)
            ·with_reducible assumption
            clear hKq Kq;try simp only[Act.put,List.setIfInBounds_toArray,List.set_cons_zero,List.set_cons_succ]
            try simp only[Act.put,List.setIfInBounds_toArray,List.set_cons_zero,List.set_cons_succ]
            refine wpAnyH_ready (rs:=[1]) (by kernel_rfl) (by simp) ?_;refine AllReadyH.cons (EM rfl) (fun Kq hKq=>?_) ?_
            focus
             go_simp
             refine hKq.out _ _ ?_ (fun hH=>?_)
             ·with_reducible assumption
             clear hKq Kq;try simp only[Act.put,List.setIfInBounds_toArray,List.set_cons_zero,List.set_cons_succ]
             try simp only[Act.put,List.setIfInBounds_toArray,List.set_cons_zero,List.set_cons_succ]
            rotate_left
            exact AllReadyH.nil
           rotate_left
           exact AllReadyH.nil
          rotate_left
          rotate_left
          exact AllReadyH.nil;all_goals
           try simp only[Act.put,List.setIfInBounds_toArray,List.set_cons_zero,List.set_cons_succ]
           refine wpAnyH_ready (rs:=[17]) (by kernel_rfl) (by simp) ?_;refine AllReadyH.cons (EM rfl) (fun Kq hKq=>?_) ?_
           focus
            (refine step_append_lies _ rfl (.tmp 53) (.tmp 68) 25 rfl w.heap.size 50 i1 (.agg #[.slice none 0 0,.int .i64 0]) 2 32 Tryz.underlying25 HY.out.1 HY.out.2.1 HY.out.2.2.1 HY.out.2.2.2 rfl (by decide) (.slice A0 K.length c0) K.length (K.flatMap Ed) (by rfl) (QDV HROW1.out) ⟨w1.heap.size,0,none⟩ 1 1 [.slice DC pC qC,.int .i64 (rM j).pl] (by rfl) (by rfl) (World.news_of_block (cs:=#[.slice DC pC qC,.int .i64 (rM j).pl]) (heap_alloc_new w1 _)) Yh (by decide) (by have:=HKL.out;unfold maxLen;omega) (by have:=HKL.out;omega) (by have:=HSW.out;have:=HE1.out.size;simp;omega) (w1.heap.size+1) (by simp) ?_;intro g5 cap w5 hown5 hgrow5 hat5 hlt5;obtain⟨d5,e5⟩:=Yp hgrow5 HNO.out hl1 q1 f1;have hg5:dd<w5.heap.size:=Nat.lt_of_lt_of_le hl1 (Nat.le_trans (by simp) hgrow5.size);have ATM:=AA (HBX.out.claim HK.out HM.out HE1.out (o1.readE (Nat.le_refl _)) (Nat.le_refl _) (by rw[HUA.out];exact hgrow5) hown5);have T5:=T1.gr5 HE1.out HLB.out.1 HLB.out.2 hgrow5 (HNB.out);have SB5:=HSS.out w5 T5;have SC5:=HSS.out (w5.setCell ⟨dd,5,none⟩ (.slice (some ⟨g5,0,none⟩) (K.length+1) cap)) (T5.st5 HDB.out.1 HDB.out.2 (Nat.lt_of_lt_of_le HLB.out.1 (Nat.le_trans HE1.out.size (Nat.le_trans (by simp) hgrow5.size))) (Nat.lt_of_lt_of_le HLB.out.2 (Nat.le_trans HE1.out.size (Nat.le_trans (by simp) hgrow5.size)))))
            try go_simp
            refine hKq.out _ _ ?_ (fun hH=>?_)
            ·with_reducible assumption
            clear hKq Kq;try simp only[Act.put,List.setIfInBounds_toArray,List.set_cons_zero,List.set_cons_succ]
            refine JD (v:=?_) 18 rfl (by kernel_rfl) (fun _ _ _ h=>h) hH (by rfl) ?_ ?_
            rotate_left
            ·(rintro wq ⟨s0,s1,s2⟩;go_simp<;>with_reducible rfl)
            try simp only[Act.put,List.setIfInBounds_toArray,List.set_cons_zero,List.set_cons_succ]
            refine wpAnyH_ready (rs:=[19]) (by kernel_rfl) (by simp) ?_;refine AllReadyH.cons (EM rfl) (fun Kq hKq=>?_) ?_
            focus
             go_simp
             refine hKq.out _ _ ?_ (fun hH=>?_)
             ·with_reducible assumption
             clear hKq Kq;try simp only[Act.put,List.setIfInBounds_toArray,List.set_cons_zero,List.set_cons_succ]
             refine wpAnyH_done (by kernel_rfl) ?_ _;go_wp2_with fail
             go_meet;case rel=>exact ATM.out
            exact AllReadyH.nil
           exact AllReadyH.nil
         case rest=>
          refine hJ2 _ _ ?_;have HCT:=AA hcut;clear hcut hJ2 S0;go_wp2_with fail
          go_roundw;case rel=>exact⟨j+1,by omega,by omega,by go_num,HCT.out⟩
          case measure=>simp[intOf];omega
        ·have HE:Hid (min nM 6=j):=AA (by omega);clear hbox;go_wp2_with fail
         go_meet;case rel=>rw[HE.out];exact⟨_,HBX.out⟩
       ·have HE:Hid (min nM 6=j):=AA (by omega);clear hbox;go_wp2_with fail
        go_meet;case rel=>rw[HE.out];exact⟨_,HBX.out⟩
     case rest=>
      obtain⟨⟨ua,ub,uc,ud,ue,uf⟩,hbox⟩:=hcut;obtain⟨A1,n1,m1,A2,n2,m2,A3,n3,m3,A4,n4,m4,A5,n5,m5,A6,n6,m6,hu⟩:=hbox.own.forms;simp only[Pv.mk.injEq]at hu;obtain⟨rfl,rfl,rfl,rfl,rfl,rfl⟩:=hu;obtain⟨y0,y1,y2,y3,y4,y5⟩:=KV hbox.cs;obtain⟨r0,r1,r2,r3,r4,r5⟩:=KV hbox.rx;have k0:=Lib.frozen_of_heap hbox.rx 0;have k1:=Lib.frozen_of_heap hbox.rx 1;have k2:=Lib.frozen_of_heap hbox.rx 2;have k3:=Lib.frozen_of_heap hbox.rx 3;have k4:=Lib.frozen_of_heap hbox.rx 4;have k5:=Lib.frozen_of_heap hbox.rx 5;have hf:=Uf hbox.rx (.slice A1 n1 m1) (.slice A2 n2 m2) (.slice A3 n3 m3) (.slice A4 n4 m4) (.slice A5 n5 m5) (.slice A6 n6 m6)
      have hk:=Ny (d:=w.heap.size+1) wc (.slice A1 n1 m1) (.slice A2 n2 m2) (.slice A3 n3 m3) (.slice A4 n4 m4) (.slice A5 n5 m5) (.slice A6 n6 m6);have HFO:=AA (hbox.own.keepT hk (Ks hbox.rx (by decide)));have HFB:=AA (hbox.low.trans (hk.below (fun q hq e=>by omega) hbox.low.size));have HF:=AA hf;clear hf hk hbox;go_wp2_with fail
      generalize((((((wc.setCell ⟨w.heap.size+1,0,none⟩ (.slice A1 n1 m1)).setCell ⟨w.heap.size+1,1,none⟩ (.slice A2 n2 m2)).setCell ⟨w.heap.size+1,2,none⟩ (.slice A3 n3 m3)).setCell ⟨w.heap.size+1,3,none⟩ (.slice A4 n4 m4)).setCell ⟨w.heap.size+1,4,none⟩ (.slice A5 n5 m5)).setCell ⟨w.heap.size+1,5,none⟩ (.slice A6 n6 m6))=V at *;obtain⟨v0,v1,v2,v3,v4,v5⟩:=KV HF.out;refine bodyPost_ret (v:=.agg #[.slice A1 n1 m1,.slice A2 n2 m2,.slice A3 n3 m3,.slice A4 n4 m4,.slice A5 n5 m5,.slice A6 n6 m6]) (by simp[results,Tryz.results14,go_sem,v0,v1,v2,v3,v4,v5]) rfl ?_
      exact⟨⟨.slice A1 n1 m1,.slice A2 n2 m2,.slice A3 n3 m3,.slice A4 n4 m4,.slice A5 n5 m5,.slice A6 n6 m6⟩,rfl,HFO.out,HFB.out⟩
end Go.Proofs.YthfkpalfopdmhaaGreatDoor
