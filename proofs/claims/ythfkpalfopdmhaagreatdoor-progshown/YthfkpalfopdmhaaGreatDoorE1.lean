/- Texts of the walk, packed. -/
import Derived.Laws.BitsAllLaws
import Derived.Laws.BitsLemmas
import Derived.Deep.RegionLaw
import Derived.Test.YthfkpalfopdmhaaGreatDoorX16
import Derived.Test.YthfkpalfopdmhaaGreatDoorX17
import Derived.Test.YthfkpalfopdmhaaGreatDoorX28
import Derived.Test.YthfkpalfopdmhaaGreatDoorX29
import Derived.Test.YthfkpalfopdmhaaGreatDoorX30
import Derived.Test.YthfkpalfopdmhaaGreatDoorX34
import Derived.Test.YthfkpalfopdmhaaGreatDoorX36
import Derived.Test.YthfkpalfopdmhaaGreatDoorX38
import Derived.Test.YthfkpalfopdmhaaGreatDoorX40
import Derived.Test.YthfkpalfopdmhaaGreatDoorX42
import Derived.Test.YthfkpalfopdmhaaGreatDoorX47
import Derived.Test.YthfkpalfopdmhaaGreatDoorX00
namespace Go.Proofs.YthfkpalfopdmhaaGreatDoor
open Go.RowKit
structure Io where
 op:Int
 n:Int
 name:ByteArray
 pl:Int
def Ne (w:World) (A:Option Addr) (n:Nat) (R:Nat->Io):Prop:=
 ∀i,i<n->∃b off,A=some ⟨b,off,none⟩/\b<w.heap.size/\w.cell? ⟨b,off+i*4,none⟩=some (.int .i64 (R i).op)/\w.cell? ⟨b,off+i*4+1,none⟩=some (.int .i64 (R i).n)/\
  w.cell? ⟨b,off+i*4+2,none⟩=some (.string (R i).name)/\w.cell? ⟨b,off+i*4+3,none⟩=some (.int .i64 (R i).pl)
theorem Ne.on {w w':World} {A:Option Addr} {n:Nat} {R:Nat->Io} (h:Ne w A n R) (hb:Below w.heap.size w w'):Ne w' A n R:=by
 intro i hi;obtain⟨b,off,hA,hbl,h0,h1,h2,h3⟩:=h i hi;have e:∀o,w'.cell? ⟨b,o,none⟩=w.cell? ⟨b,o,none⟩:=fun o=>hb.cell (p:=⟨b,o,none⟩) hbl
 exact⟨b,off,hA,Nat.lt_of_lt_of_le hbl hb.size,(e _).trans h0,(e _).trans h1,(e _).trans h2,(e _).trans h3⟩
def Pi (r:Io):Nod:=⟨r.op,r.n,(r.name.extract 0 (min (r.name.size:Int) 40).toNat).data.toList,r.pl⟩
def QHP (R:Nat->Io) (k:Nat):List Nod:=(List.range k).map fun i=>Pi (R i)
theorem QHQ (R:Nat->Io) (k:Nat):QHP R (k+1)=QHP R k++[Pi (R k)]:=by simp[QHP,List.range_succ]
theorem QHR (R:Nat->Io) (k:Nat):(QHP R k).length=k:=by simp[QHP]
theorem QHS (R:Nat->Io) (k:Nat):Fa (QHP R k):=by
 intro t ht;simp only[QHP,List.mem_map]at ht;obtain⟨i,_,rfl⟩:=ht;show((R i).name.extract 0 (min ((R i).name.size:Int) 40).toNat).data.toList.length<=100000;rw[GP,ByteArray.size_extract];omega
theorem QHT (w:World):CL (w.alloc (.cells #[] 46)) w.heap.size (.slice (some ⟨w.heap.size,0,none⟩) 0 0) []:=
 ⟨rfl,.inr ⟨w.heap.size,0,#[],rfl,Nat.le_refl _,heap_alloc_new w _,by decide,by decide,rfl,rfl⟩⟩
theorem QHU {W2:World} (a:Nod):∀j u,(CQ a)[j]?=some u->(W2.alloc (.cells #[.int .i64 a.op,.int .i64 a.n,.string ⟨a.name.toArray⟩,.int .i64 a.pl] 46)).cell? ((⟨W2.heap.size,0,none⟩:Addr).add j)=some u:=by
 intro j u hu
 match j,hu with
 |0,hu=>simp[CQ]at hu;subst hu;simp[Addr.add]
 |1,hu=>simp[CQ]at hu;subst hu;simp[Addr.add]
 |2,hu=>simp[CQ]at hu;subst hu;simp[Addr.add]
 |3,hu=>simp[CQ]at hu;subst hu;simp[Addr.add]
 |n+4,hu=>simp[CQ]at hu
theorem QHV {W2:World} (r:Io) (t:ByteArray) (ht:t=r.name.extract 0 (min (r.name.size:Int) 40).toNat) (b:Nat) (hb:b=W2.heap.size):
  ∀j u,(CQ (Pi r))[j]?=some u->(W2.alloc (.cells #[.int .i64 r.op,.int .i64 r.n,.string t,.int .i64 r.pl] 46)).cell? ((⟨b,0,none⟩:Addr).add j)=some u:=by
 subst hb;have h:=QHU (W2:=W2) (Pi r);have e1:(⟨(Pi r).name.toArray⟩:ByteArray)=t:=by rw[ht];apply Q1;simp[Pi]
 rw[e1]at h;exact h
def QHW (l:List Nod) (w:World) (e:Ending) (w':World):Prop:=∃v,e=.returned v/\CL w' w.heap.size v l/\Below w.heap.size w w'
set_option maxRecDepth 100000 in
set_option maxHeartbeats 8000000 in
theorem QHX (A:Option Addr) (n c:Nat) (R:Nat->Io) (w:World) (hA:Ne w A n R):Calls Tryz.prog 35 #[.slice A n c] w (QHW (QHP R (min n 60)) w):=by
 obtain⟨i0,hi,hz0,hz1,hz2⟩:=info_parts info30;have HZ:=AA (show Tryz.prog.info? 46=some i0/\i0.zero=some (.agg #[.int .i64 0,.int .i64 0,.string ⟨#[]⟩,.int .i64 0])/\i0.size=4/\i0.bytes=40 from⟨hi,hz0,hz1,hz2⟩);have HA:=AA hA;clear hi hz0 hz1 hz2 hA;go_enter Tryz.func35,Tryz.ntmps35;go_wp2_with fail
 go_loopw [3,4] (fun v x wr=>∃k:Nat,k<=n/\k<=60/\x=.int .i64 k/\CL wr w.heap.size v (QHP R k)/\Below w.heap.size w wr) (fun _ x _=>60-(intOf x).toNat)
 case atStart=>exact⟨0,Nat.zero_le _,Nat.zero_le _,rfl,QHT w,(Below.refl _ _).alloc (Nat.le_refl _) _⟩
 case round=>
  obtain⟨k,hkn,hk60,rfl,hown,hbel⟩:=hrel;have HO:=AA hown;have HB:=AA hbel;have hsz:=hbel.size;clear hown;by_cases hlt:k<n
  ·by_cases hl6:k<60
   ·obtain⟨b,off,hAA,hbl,y0,y1,y2,y3⟩:=HA.out k hlt;subst hAA;have x0:=(hbel.cell (p:=⟨b,off+k*4,none⟩) hbl).trans y0;have x1:=(hbel.cell (p:=⟨b,off+k*4+1,none⟩) hbl).trans y1;have x2:=(hbel.cell (p:=⟨b,off+k*4+2,none⟩) hbl).trans y2;have x3:=(hbel.cell (p:=⟨b,off+k*4+3,none⟩) hbl).trans y3;have HS:=AA (QHQ R k);have hrl:=QHR R k;clear y0 y1 y2 y3 hbel;generalize R k=r at *;generalize hG:QHP R k=G at *;have hG60:G.length<=59:=by omega
    clear hrl hG;go_wp2_with (at_builtin;refine wpList_append_own _ rfl (.tmp 29) (.tmp 31) 42 rfl w.heap.size 46 i0 (.agg #[.int .i64 0,.int .i64 0,.string ⟨#[]⟩,.int .i64 0]) 4 40 Tryz.underlying42 HZ.out.1 HZ.out.2.1 HZ.out.2.2.1 HZ.out.2.2.2 rfl (by decide) _ G.length (Do G) rfl ?dO ⟨wr.heap.size+1,0,none⟩ 1 1 (CQ (Pi r)) rfl rfl ?d1 ?d2 ?d3 ?d4 ?d5 ?_)
    case dO=>exact HO.out.on (((Below.refl _ _).alloc (Nat.le_refl _) _).alloc (by simp) _)
    case d1=>exact QHV r _ rfl _ (by simp)
    case d2=>intro u hu;exact XW [Pi r] u (by rw[PD];exact hu)
    case d3=>unfold maxLen;omega
    case d4=>omega
    case d5=>simp;omega
    intro v5 w5 hown' hgrow _;have HK5:Hid (CL w5 w.heap.size v5 (G++[Pi r])):=AA (by unfold CL;rw[O9,PD,List.length_append];exact hown');have HL5:Hid (Below w.heap.size w w5):=AA (((HB.out.alloc hsz _).alloc (by simp;omega) _).grown hgrow (by simp;omega) (fun k hk=>(By HO.out k hk).1));clear hown' hgrow x0 x1 x2 x3;go_wp2_with fail
    go_roundw;case rel=>exact⟨k+1,by omega,by omega,by go_num,by rw[HS.out];exact HK5.out,HL5.out⟩
    case measure=>simp[intOf];omega
   ·have HE:Hid (min n 60=k):=AA (by omega);clear hbel;go_wp2_with fail
    go_ret;exact⟨_,rfl,by rw[HE.out];exact HO.out,HB.out⟩
  ·have HE:Hid (min n 60=k):=AA (by omega);clear hbel;go_wp2_with fail
   go_ret;exact⟨_,rfl,by rw[HE.out];exact HO.out,HB.out⟩
structure RawS where
 kind:Int
 reg:ByteArray
 name:ByteArray
 AE:Option Addr
 nE:Nat
 cE:Nat
 RE:Nat->Io
 AF:Option Addr
 nF:Nat
 cF:Nat
 RF:Nat->Io
 n:Int
 body:Int
 els:Int
 pl:Int
def QHY (w:World) (A:Option Addr) (n:Nat) (R:Nat->RawS):Prop:=
 ∀i,i<n->∃b off,A=some ⟨b,off,none⟩/\b<w.heap.size/\w.cell? ⟨b,off+i*9,none⟩=some (.int .i64 (R i).kind)/\w.cell? ⟨b,off+i*9+1,none⟩=some (.string (R i).reg)/\w.cell? ⟨b,off+i*9+2,none⟩=some (.string (R i).name)/\
  w.cell? ⟨b,off+i*9+3,none⟩=some (.slice (R i).AE (R i).nE (R i).cE)/\w.cell? ⟨b,off+i*9+4,none⟩=some (.slice (R i).AF (R i).nF (R i).cF)/\w.cell? ⟨b,off+i*9+5,none⟩=some (.int .i64 (R i).n)/\
  w.cell? ⟨b,off+i*9+6,none⟩=some (.int .i64 (R i).body)/\w.cell? ⟨b,off+i*9+7,none⟩=some (.int .i64 (R i).els)/\w.cell? ⟨b,off+i*9+8,none⟩=some (.int .i64 (R i).pl)/\Ne w (R i).AE (R i).nE (R i).RE/\Ne w (R i).AF (R i).nF (R i).RF
theorem QHY.on {w w':World} {A:Option Addr} {n:Nat} {R:Nat->RawS} (h:QHY w A n R) (hb:Below w.heap.size w w'):QHY w' A n R:=by
 intro i hi;obtain⟨b,off,hA,hbl,h0,h1,h2,h3,h4,h5,h6,h7,h8,h9,h10⟩:=h i hi;have e:∀o,w'.cell? ⟨b,o,none⟩=w.cell? ⟨b,o,none⟩:=fun o=>hb.cell (p:=⟨b,o,none⟩) hbl
 exact⟨b,off,hA,Nat.lt_of_lt_of_le hbl hb.size,(e _).trans h0,(e _).trans h1,(e _).trans h2,(e _).trans h3,(e _).trans h4,(e _).trans h5,(e _).trans h6,(e _).trans h7,(e _).trans h8,h9.on hb,h10.on hb⟩
def QHZ (s:ByteArray):List UInt8:=(s.extract 0 (min (s.size:Int) 40).toNat).data.toList
def QHa (r:RawS):Stm:=⟨r.kind,QHZ r.reg,QHZ r.name,QHP r.RE (min r.nE 60),QHP r.RF (min r.nF 60),r.n,r.body,r.els,r.pl⟩
def QHb (R:Nat->RawS) (k:Nat):List Stm:=(List.range k).map fun i=>QHa (R i)
theorem QHc (R:Nat->RawS) (k:Nat):QHb R (k+1)=QHb R k++[QHa (R k)]:=by simp[QHb,List.range_succ]
theorem QHd (R:Nat->RawS) (k:Nat):(QHb R k).length=k:=by simp[QHb]
theorem QHe (s:ByteArray):(QHZ s).length<=40:=by
 unfold QHZ;rw[GP,ByteArray.size_extract];omega
theorem QHf (R:Nat->RawS) (k:Nat):∀x∈QHb R k,GW x:=by
 intro t ht;simp only[QHb,List.mem_map]at ht;obtain⟨i,_,rfl⟩:=ht;have h1:=QHe (R i).reg;have h2:=QHe (R i).name;refine⟨by show(QHZ (R i).reg).length<=_;omega,by show(QHZ (R i).name).length<=_;omega,?_,?_,QHS _ _,QHS _ _⟩
 ·show(QHP _ _).length<=_;rw[QHR];omega
 ·show(QHP _ _).length<=_;rw[QHR];omega
theorem QHg (s:ByteArray):(⟨(QHZ s).toArray⟩:ByteArray)=s.extract 0 (min (s.size:Int) 40).toNat:=by
 apply Q1;unfold QHZ;simp
def QHh (l:List Stm) (w:World) (e:Ending) (w':World):Prop:=∃v,e=.returned v/\Fh w' w.heap.size v l/\(∃g cap,v=.slice (some ⟨g,0,none⟩) l.length cap)/\Below w.heap.size w w'
structure QHi (w:World) (R:Nat->RawS) (k:Nat) (v:Value) (wr:World):Prop where
 row:∃K:List Sv,K.map (·.s)=QHb R k/\wr.ownsRow w.heap.size 44 9 v K.length (CC K)/\∀x∈K,CY w.heap.size wr x.vE x.s.e/\CY w.heap.size wr x.vF x.s.f
 low:Below w.heap.size w wr
 form:∃g cap,v=.slice (some ⟨g,0,none⟩) k cap
theorem QHj {w:World} {B:Nat} {v:Value} {n:Nat} {xs:List Value} (h:w.ownsRow B 44 9 v n xs):∀q cs fr,w.heap[q]?=some (.cells cs 46 fr)->¬(v.ownBlock=some q):=by
 intro q cs fr hh e;obtain⟨_,cs',h2⟩:=Pm h q e;rw[h2]at hh;simp at hh
theorem QHk {w:World} {B:Nat} {v:Value} {n:Nat} {xs:List Value} (h:w.ownsRow B 44 9 v n xs):∀q,v.ownBlock=some q->q<w.heap.size:=fun q hq=>(Array.getElem?_eq_some_iff.1 (Pm h q hq).2.choose_spec).1
theorem QHl {w:World} {b j:Nat} {v:Value} {o:Obj}:AG (fun q=>q=b) w ((w.setCell ⟨b,j,none⟩ v).alloc o):=(AG.set (g:=b) (j:=j) (w:=w)).trans (AG.of (P:=fun _=>False) ((Below.refl _ _).alloc (Nat.le_refl _) o)) (fun _ _ h=>h) (fun _ _ h=>h.elim)
theorem QHm {w w4:World} {b j:Nat} {v:Value} {o:Obj} (h:Below w.heap.size w w4) (_:w.heap.size=b):AG (fun q=>q=b) w ((w4.setCell ⟨b,j,none⟩ v).alloc o):=(AG.of (P:=fun q=>q=b) h).trans QHl (fun _ _ h=>h) (fun _ _ h=>h)
theorem QHn (w:World) (b j:Nat) {v:Value} {o:Obj}:((w.setCell ⟨b,j,none⟩ v).alloc o).heap[w.heap.size]?=some o:=by
 have h:=heap_alloc_new (w.setCell ⟨b,j,none⟩ v) o;simpa using h
set_option maxRecDepth 100000 in
set_option maxHeartbeats 16000000 in
theorem QHo (A:Option Addr) (n c:Nat) (R:Nat->RawS) (w:World) (hA:QHY w A n R):Calls Tryz.prog 91 #[.slice A n c] w (QHh (QHb R (min n 50)) w):=by
 obtain⟨i0,hi,hz0,hz1,hz2⟩:=info_parts QDK;have HZ:=AA (show Tryz.prog.info? 44=some i0/\i0.zero=some (.agg #[.int .i64 0,.string ⟨#[]⟩,.string ⟨#[]⟩,.slice none 0 0,.slice none 0 0,.int .i64 0,.int .i64 0,.int .i64 0,.int .i64 0])/\i0.size=9/\i0.bytes=120 from⟨hi,hz0,hz1,hz2⟩);have HA:=AA hA;clear hi hz0 hz1 hz2 hA;go_enter Tryz.func91,Tryz.ntmps91;go_wp2_with fail
 go_loopw [3,4] (fun v x wr=>∃k:Nat,k<=n/\k<=50/\x=.int .i64 k/\QHi w R k v wr) (fun _ x _=>50-(intOf x).toNat)
 case atStart=>exact⟨0,Nat.zero_le _,Nat.zero_le _,rfl,⟨[],rfl,⟨rfl,.inr ⟨w.heap.size,0,#[],rfl,Nat.le_refl _,heap_alloc_new w _,by decide,by decide,rfl,rfl⟩⟩,fun x h=>by(cases h)⟩,(Below.refl _ _).alloc (Nat.le_refl _) _,_,_,rfl⟩
 case round=>
  obtain⟨k,hkn,hk50,rfl,hrow⟩:=hrel;have HRW:=AA hrow;have hsz:=hrow.low.size;clear hrow;by_cases hlt:k<n
  ·by_cases hl6:k<50
   ·obtain⟨b,off,hAA,hbl,y0,y1,y2,y3,y4,y5,y6,y7,y8,yE,yF⟩:=HA.out.on HRW.out.low k hlt;subst hAA;have HAE:=AA yE;have HAF:=AA yF;have HS:=AA (QHc R k);clear yE yF;generalize R k=r at *;obtain⟨kind,reg,name,AE,nE,cE,RE,AF,nF,cF,RF,rn,body,els,rpl⟩:=r;simp only at y0 y1 y2 y3 y4 y5 y6 y7 y8 HAE HAF;go_wp2_with fail
    have hb1:Below wr.heap.size wr (wr.alloc (.cells #[.int .i64 kind,.string (reg.extract 0 (min (reg.size:Int) 40).toNat),.string (name.extract 0 (min (name.size:Int) 40).toNat),.slice AE nE cE,.slice AF nF cF,.int .i64 rn,.int .i64 body,.int .i64 els,.int .i64 rpl] 44)):=(Below.refl _ _).alloc (Nat.le_refl _) _;have hx1:=heap_alloc_new wr (.cells #[.int .i64 kind,.string (reg.extract 0 (min (reg.size:Int) 40).toNat),.string (name.extract 0 (min (name.size:Int) 40).toNat),.slice AE nE cE,.slice AF nF cF,.int .i64 rn,.int .i64 body,.int .i64 els,.int .i64 rpl] 44)
    generalize wr.alloc (.cells #[.int .i64 kind,.string (reg.extract 0 (min (reg.size:Int) 40).toNat),.string (name.extract 0 (min (name.size:Int) 40).toNat),.slice AE nE cE,.slice AF nF cF,.int .i64 rn,.int .i64 body,.int .i64 els,.int .i64 rpl] 44)=w1 at *;obtain⟨xb,hxb⟩:∃xb,wr.heap.size=xb:=⟨_,rfl⟩
    rw[hxb]at hx1⊢;have HXB:=AA hxb;have hbw:w.heap.size<=xb:=by omega
    clear y0 y1 y2 y3 y4 y5 y6 y7 y8 hbl hxb;refine(QHX AE nE cE RE _ (HAE.out.on hb1)).mono ?_;rintro e2 w2 ⟨v2,rfl,ho2,hb2⟩;have hl1:=(Array.getElem?_eq_some_iff.1 hx1).1;have hx2:=(hb2.block xb hl1).trans hx1;have hl2:=(Array.getElem?_eq_some_iff.1 hx2).1;obtain⟨A2,n2,c2,rfl⟩:=IR ho2;have HE2:Hid (CY w.heap.size w2 (.slice A2 n2 c2) (QHP RE (min nE 60))):=AA (ho2.readE (Nat.le_trans hsz hb1.size));have HB2:Hid (Below wr.heap.size wr w2):=AA (AC hb1 hb2);have z3:w2.cell? ⟨xb,3,none⟩=some (.slice AE nE cE):=by rw[Lib.cell_of_heap hx2];rfl
    have z4:w2.cell? ⟨xb,4,none⟩=some (.slice AF nF cF):=by rw[Lib.cell_of_heap hx2];rfl
    have q3:w2.frozen? ⟨xb,3,none⟩=false:=Lib.frozen_of_heap hx2 3;have HX2:=AA hx2;clear ho2 hb1 hb2 hx1 hl1 hx2;go_wp2_with fail
    have hx3:=Am (j:=3) (v:=.slice A2 n2 c2) HX2.out;have hk3:AG (fun q=>q=xb) w2 (w2.setCell ⟨xb,3,none⟩ (.slice A2 n2 c2)):=AG.set;generalize w2.setCell ⟨xb,3,none⟩ (.slice A2 n2 c2)=w3 at *;have HK3:=AA hk3;have hKW:AG (fun q=>q=xb) wr w3:=(AG.of (P:=fun q=>q=xb) HB2.out).trans hk3 (fun _ _ h=>h) (fun _ _ h=>h);have hB3:Below wr.heap.size wr w3:=hKW.below (fun q hq e=>by have:=HXB.out;omega) (Nat.le_refl _);refine(QHX AF nF cF RF _ (HAF.out.on hB3)).mono ?_;rintro e4 w4 ⟨v4,rfl,ho4,hb4⟩;have hl3:=(Array.getElem?_eq_some_iff.1 hx3).1;have hx4:=(hb4.block xb hl3).trans hx3
    have hl4:=(Array.getElem?_eq_some_iff.1 hx4).1;obtain⟨A4,n4,c4,rfl⟩:=IR ho4;have HE4:Hid (CY w.heap.size w4 (.slice A4 n4 c4) (QHP RF (min nF 60))):=AA (ho4.readE (Nat.le_trans hsz hB3.size));have HB4:Hid (Below wr.heap.size wr w4):=AA (AC hB3 hb4);have z4:w4.cell? ⟨xb,4,none⟩=some (.slice AF nF cF):=by rw[Lib.cell_of_heap hx4];rfl
    have q4:w4.frozen? ⟨xb,4,none⟩=false:=Lib.frozen_of_heap hx4 4;have m0:w4.cell? ⟨xb,0,none⟩=some (.int .i64 kind):=by rw[Lib.cell_of_heap hx4];rfl
    have m1:w4.cell? ⟨xb,1,none⟩=some (.string (reg.extract 0 (min (reg.size:Int) 40).toNat)):=by rw[Lib.cell_of_heap hx4];rfl
    have m2:w4.cell? ⟨xb,2,none⟩=some (.string (name.extract 0 (min (name.size:Int) 40).toNat)):=by rw[Lib.cell_of_heap hx4];rfl
    have m3:w4.cell? ⟨xb,3,none⟩=some (.slice A2 n2 c2):=by rw[Lib.cell_of_heap hx4];rfl
    have m5:w4.cell? ⟨xb,5,none⟩=some (.int .i64 rn):=by rw[Lib.cell_of_heap hx4];rfl
    have m6:w4.cell? ⟨xb,6,none⟩=some (.int .i64 body):=by rw[Lib.cell_of_heap hx4];rfl
    have m7:w4.cell? ⟨xb,7,none⟩=some (.int .i64 els):=by rw[Lib.cell_of_heap hx4];rfl
    have m8:w4.cell? ⟨xb,8,none⟩=some (.int .i64 rpl):=by rw[Lib.cell_of_heap hx4];rfl
    have hE2:CY w.heap.size w4 (.slice A2 n2 c2) (QHP RE (min nE 60)):=(HE2.out.keep HK3.out (fun q cs fr hh e=>by rw[e,HX2.out]at hh;simp at hh)).on hb4;have HE2':=AA hE2;have HX4:=AA hx4;obtain⟨K,hK1,hK2,hK3⟩:=HRW.out.row;have hKl:K.length=k:=by have:=congrArg List.length hK1;rw[List.length_map,QHd]at this;exact this
    have HK1:=AA hK1;have HK2:=AA hK2;have HKR:=AA hK3;have HKL:Hid (K.length<=50):=AA (by omega);clear ho4 hb4 hx3 hl3 hx4 z3 q3 hk3 hKW hB3 hE2 hK1 hK2 hK3 hKl;obtain⟨y,hy⟩:∃y:Sv,y=⟨⟨kind,QHZ reg,QHZ name,QHP RE (min nE 60),QHP RF (min nF 60),rn,body,els,rpl⟩,.slice A2 n2 c2,.slice A4 n4 c4⟩:=⟨_,rfl⟩
    have HY:=AA hy;have HYC:Hid (#[.int .i64 kind,.string (reg.extract 0 (min (reg.size:Int) 40).toNat),.string (name.extract 0 (min (name.size:Int) 40).toNat),.slice A2 n2 c2,.slice A4 n4 c4,.int .i64 rn,.int .i64 body,.int .i64 els,.int .i64 rpl]=(Be y).toArray):=AA (by rw[hy];simp only[Be];rw[QHg,QHg]);have HBE:Hid (Below w4.heap.size w4 (w4.setCell ⟨xb,4,none⟩ (.slice A4 n4 c4))->True):=AA (fun _=>trivial);clear hy HBE
    go_wp2_with (at_builtin;refine wpList_append_own _ rfl (.tmp 45) (.tmp 47) 39 rfl w.heap.size 44 i0 (.agg #[.int .i64 0,.string ⟨#[]⟩,.string ⟨#[]⟩,.slice none 0 0,.slice none 0 0,.int .i64 0,.int .i64 0,.int .i64 0,.int .i64 0]) 9 120 Tryz.underlying39 HZ.out.1 HZ.out.2.1 HZ.out.2.2.1 HZ.out.2.2.2 rfl (by decide) _ K.length (CC K) rfl ?dO ⟨w4.heap.size,0,none⟩ 1 1 (Be y) (by rfl) (by rfl) ?d1 ?d2 ?d3 ?d4 ?d5 ?_)
    case dO=>exact Kt HK2.out (QHm HB4.out HXB.out) (fun q hq e=>by have:=QHk HK2.out q hq;have:=HXB.out;omega)
    case d1=>
     rw[HYC.out];exact World.news_of_block (cs:=(Be y).toArray) (QHn _ _ _)
    case d2=>rw[HY.out];exact QEr ⟨_,_,_,rfl⟩ ⟨_,_,_,rfl⟩
    case d3=>have:=HKL.out;unfold maxLen;omega
    case d4=>have:=HKL.out;omega
    case d5=>have:=HB4.out.size;simp;omega
    intro v5 w5 hown5 hgrow5 _;have HROW:Hid (QHi w R (k+1) v5 w5):=AA (by
     have hkw:=QHm (j:=4) (v:=.slice A4 n4 c4) (o:=.cells (Be y).toArray 44) HB4.out HXB.out;have hk4:AG (fun q=>q=xb) w4 ((w4.setCell ⟨xb,4,none⟩ (.slice A4 n4 c4)).alloc (.cells (Be y).toArray 44)):=QHl;rw[HYC.out]at hgrow5;have hg5:=AG.grown hgrow5;have hnr:∀q,u3.ownBlock=some q->q<wr.heap.size:=QHk HK2.out;have hk5:AG (fun q=>q=xb\/u3.ownBlock=some q) wr w5:=hkw.trans hg5 (fun _ _ h=>.inl h) (fun _ _ h=>.inr h);have hx4n:∀q cs fr,w4.heap[q]?=some (.cells cs 46 fr)->¬(q=xb\/u3.ownBlock=some q):=by
      rintro q cs fr hh (e|e)
      ·rw[e,HX4.out]at hh;simp at hh
      ·obtain⟨_,cs',h2⟩:=Pm HK2.out q e;rw[HB4.out.block q (hnr q e),h2]at hh;simp at hh
     have hk45:AG (fun q=>q=xb\/u3.ownBlock=some q) w4 w5:=hk4.trans hg5 (fun _ _ h=>.inl h) (fun _ _ h=>.inr h);refine⟨⟨K++[y],?_,?_,?_⟩,HRW.out.low.trans (hk5.below ?_ hsz),?_⟩
     ·rw[List.map_append,HK1.out,HS.out,HY.out];rfl
     ·rw[E6,List.length_append,show CC [y]=Be y from by simp[CC]];exact hown5
     ·intro z hz;rcases List.mem_append.1 hz with hz|hz
      ·obtain⟨r1,r2⟩:=HKR.out z hz;have hn:∀q cs fr,wr.heap[q]?=some (.cells cs 46 fr)->¬(q=xb\/u3.ownBlock=some q):=by
        rintro q cs fr hh (e|e)
        ·have:=(Array.getElem?_eq_some_iff.1 hh).1;have:=HXB.out;omega
        ·exact QHj HK2.out q cs fr hh e
       exact⟨r1.keep hk5 hn,r2.keep hk5 hn⟩
      ·obtain rfl:z=y:=by simpa using hz
       rw[HY.out];exact⟨HE2'.out.keep hk45 hx4n,HE4.out.keep hk45 hx4n⟩
     ·rintro q hq (e|e)
      ·omega
      ·have:=(Pm HK2.out q e).1;omega
     ·have hKl:K.length=k:=by have:=congrArg List.length HK1.out;rw[List.length_map,QHd]at this;exact this
      rcases hown5.2 with⟨_,h0⟩|⟨g5,cap5,cur5,h1,_⟩
      ·omega
      ·exact⟨g5,cap5,by rw[<-hKl];exact h1⟩)
    clear hown5 hgrow5;go_wp2_with fail
    go_roundw;case rel=>exact⟨k+1,by omega,by omega,by go_num,HROW.out⟩
    case measure=>simp[intOf];omega
   ·have HE:Hid (min n 50=k):=AA (by omega);go_wp2_with fail
    go_ret;obtain⟨K,h1,h2,h3⟩:=HRW.out.row;exact⟨_,rfl,by rw[HE.out];exact⟨K,h1,h2,h3⟩,by rw[HE.out,QHd];exact HRW.out.form,HRW.out.low⟩
  ·have HE:Hid (min n 50=k):=AA (by omega);go_wp2_with fail
   go_ret;obtain⟨K,h1,h2,h3⟩:=HRW.out.row;exact⟨_,rfl,by rw[HE.out];exact⟨K,h1,h2,h3⟩,by rw[HE.out,QHd];exact HRW.out.form,HRW.out.low⟩
structure QHp where
 name:ByteArray
 n:Int
 pl:Int
def QHq (w:World) (A:Option Addr) (n:Nat) (R:Nat->QHp):Prop:=
 ∀i,i<n->∃b off,A=some ⟨b,off,none⟩/\b<w.heap.size/\w.cell? ⟨b,off+i*3,none⟩=some (.string (R i).name)/\w.cell? ⟨b,off+i*3+1,none⟩=some (.int .i64 (R i).n)/\w.cell? ⟨b,off+i*3+2,none⟩=some (.int .i64 (R i).pl)
theorem QHq.on {w w':World} {A:Option Addr} {n:Nat} {R:Nat->QHp} (h:QHq w A n R) (hb:Below w.heap.size w w'):QHq w' A n R:=by
 intro i hi;obtain⟨b,off,hA,hbl,h0,h1,h2⟩:=h i hi;have e:∀o,w'.cell? ⟨b,o,none⟩=w.cell? ⟨b,o,none⟩:=fun o=>hb.cell (p:=⟨b,o,none⟩) hbl
 exact⟨b,off,hA,Nat.lt_of_lt_of_le hbl hb.size,(e _).trans h0,(e _).trans h1,(e _).trans h2⟩
structure QHr where
 s:ByteArray
def QHs (w:World) (A:Option Addr) (n:Nat) (R:Nat->QHr):Prop:=
 ∀i,i<n->∃b off,A=some ⟨b,off,none⟩/\b<w.heap.size/\w.cell? ⟨b,off+i,none⟩=some (.string (R i).s)
theorem QHs.on {w w':World} {A:Option Addr} {n:Nat} {R:Nat->QHr} (h:QHs w A n R) (hb:Below w.heap.size w w'):QHs w' A n R:=by
 intro i hi;obtain⟨b,off,hA,hbl,h0⟩:=h i hi;have e:∀o,w'.cell? ⟨b,o,none⟩=w.cell? ⟨b,o,none⟩:=fun o=>hb.cell (p:=⟨b,o,none⟩) hbl
 exact⟨b,off,hA,Nat.lt_of_lt_of_le hbl hb.size,(e _).trans h0⟩
structure QHt where
 A:Option Addr
 n:Nat
 c:Nat
 R:Nat->QHp
def QHu (w:World) (A:Option Addr) (n:Nat) (R:Nat->QHt):Prop:=
 ∀i,i<n->∃b off,A=some ⟨b,off,none⟩/\b<w.heap.size/\w.cell? ⟨b,off+i,none⟩=some (.slice (R i).A (R i).n (R i).c)/\QHq w (R i).A (R i).n (R i).R
theorem QHu.on {w w':World} {A:Option Addr} {n:Nat} {R:Nat->QHt} (h:QHu w A n R) (hb:Below w.heap.size w w'):QHu w' A n R:=by
 intro i hi;obtain⟨b,off,hA,hbl,h0,s0⟩:=h i hi;have e:∀o,w'.cell? ⟨b,o,none⟩=w.cell? ⟨b,o,none⟩:=fun o=>hb.cell (p:=⟨b,o,none⟩) hbl
 exact⟨b,off,hA,Nat.lt_of_lt_of_le hbl hb.size,(e _).trans h0,s0.on hb⟩
structure QHv where
 name:ByteArray
 AR:Option Addr
 nR:Nat
 cR:Nat
 RR:Nat->QHr
 AB:Option Addr
 nB:Nat
 cB:Nat
 RB:Nat->RawS
 pl:Int
def QHw (w:World) (A:Option Addr) (n:Nat) (R:Nat->QHv):Prop:=
 ∀i,i<n->∃b off,A=some ⟨b,off,none⟩/\b<w.heap.size/\w.cell? ⟨b,off+i*4,none⟩=some (.string (R i).name)/\w.cell? ⟨b,off+i*4+1,none⟩=some (.slice (R i).AR (R i).nR (R i).cR)/\w.cell? ⟨b,off+i*4+2,none⟩=some (.slice (R i).AB (R i).nB (R i).cB)/\w.cell? ⟨b,off+i*4+3,none⟩=some (.int .i64 (R i).pl)/\QHs w (R i).AR (R i).nR (R i).RR/\QHY w (R i).AB (R i).nB (R i).RB
theorem QHw.on {w w':World} {A:Option Addr} {n:Nat} {R:Nat->QHv} (h:QHw w A n R) (hb:Below w.heap.size w w'):QHw w' A n R:=by
 intro i hi;obtain⟨b,off,hA,hbl,h0,h1,h2,h3,s0,s1⟩:=h i hi;have e:∀o,w'.cell? ⟨b,o,none⟩=w.cell? ⟨b,o,none⟩:=fun o=>hb.cell (p:=⟨b,o,none⟩) hbl
 exact⟨b,off,hA,Nat.lt_of_lt_of_le hbl hb.size,(e _).trans h0,(e _).trans h1,(e _).trans h2,(e _).trans h3,s0.on hb,s1.on hb⟩
structure QHx where
 AE:Option Addr
 nE:Nat
 cE:Nat
 RE:Nat->Io
 pl:Int
def QHy (w:World) (A:Option Addr) (n:Nat) (R:Nat->QHx):Prop:=
 ∀i,i<n->∃b off,A=some ⟨b,off,none⟩/\b<w.heap.size/\w.cell? ⟨b,off+i*2,none⟩=some (.slice (R i).AE (R i).nE (R i).cE)/\w.cell? ⟨b,off+i*2+1,none⟩=some (.int .i64 (R i).pl)/\Ne w (R i).AE (R i).nE (R i).RE
theorem QHy.on {w w':World} {A:Option Addr} {n:Nat} {R:Nat->QHx} (h:QHy w A n R) (hb:Below w.heap.size w w'):QHy w' A n R:=by
 intro i hi;obtain⟨b,off,hA,hbl,h0,h1,s0⟩:=h i hi;have e:∀o,w'.cell? ⟨b,o,none⟩=w.cell? ⟨b,o,none⟩:=fun o=>hb.cell (p:=⟨b,o,none⟩) hbl
 exact⟨b,off,hA,Nat.lt_of_lt_of_le hbl hb.size,(e _).trans h0,(e _).trans h1,s0.on hb⟩
structure QHz where
 aL:Option Addr
 nL:Nat
 cL:Nat
 rL:Nat->QHt
 aV:Option Addr
 nV:Nat
 cV:Nat
 rV:Nat->QHp
 aK:Option Addr
 nK:Nat
 cK:Nat
 rK:Nat->QHp
 aT:Option Addr
 nT:Nat
 cT:Nat
 rT:Nat->QHv
 aO:Option Addr
 nO:Nat
 cO:Nat
 rO:Nat->QHv
 aM:Option Addr
 nM:Nat
 cM:Nat
 rM:Nat->QHx
structure QH0 (w:World) (p:QHz):Prop where
 l:QHu w p.aL p.nL p.rL
 v:QHq w p.aV p.nV p.rV
 k:QHq w p.aK p.nK p.rK
 t:QHw w p.aT p.nT p.rT
 o:QHw w p.aO p.nO p.rO
 m:QHy w p.aM p.nM p.rM
theorem QH0.on {w w':World} {p:QHz} (h:QH0 w p) (hb:Below w.heap.size w w'):QH0 w' p:=⟨h.l.on hb,h.v.on hb,h.k.on hb,h.t.on hb,h.o.on hb,h.m.on hb⟩
def QH1 (p:QHz):Value:=.agg #[.slice p.aL p.nL p.cL,.slice p.aV p.nV p.cV,.slice p.aK p.nK p.cK,.slice p.aT p.nT p.cT,.slice p.aO p.nO p.cO,.slice p.aM p.nM p.cM]
def QH2 (r:QHp):Cel:=⟨QHZ r.name,r.n,r.pl⟩
def QH3 (R:Nat->QHp) (k:Nat):List Cel:=(List.range k).map fun i=>QH2 (R i)
def QH4 (R:Nat->QHr) (k:Nat):List (List UInt8):=(List.range k).map fun i=>QHZ (R i).s
def QH5 (r:QHv):Thr:=⟨QHZ r.name,QH4 r.RR (min r.nR 6),QHb r.RB (min r.nB 50),r.pl⟩
def QH6 (R:Nat->QHv) (k:Nat):List Thr:=(List.range k).map fun i=>QH5 (R i)
def QH7 (R:Nat->QHt) (k:Nat):List (List Cel):=(List.range k).map fun i=>QH3 (R i).R (min (R i).n 8)
def QH8 (R:Nat->QHx) (k:Nat):List Clm:=(List.range k).map fun i=>⟨QHP (R i).RE (min (R i).nE 60),(R i).pl⟩
def QH9 (p:QHz):Prg:=⟨QH7 p.rL (min p.nL 6),QH3 p.rV (min p.nV 8),QH3 p.rK (min p.nK 8),QH6 p.rT (min p.nT 4),QH6 p.rO (min p.nO 4),QH8 p.rM (min p.nM 6)⟩
theorem QIA (R:Nat->QHp) (k:Nat):QH3 R (k+1)=QH3 R k++[QH2 (R k)]:=by simp[QH3,List.range_succ]
theorem QIB (R:Nat->QHp) (k:Nat):(QH3 R k).length=k:=by simp[QH3]
theorem QIC (R:Nat->QHr) (k:Nat):QH4 R (k+1)=QH4 R k++[QHZ (R k).s]:=by simp[QH4,List.range_succ]
theorem QID (R:Nat->QHr) (k:Nat):(QH4 R k).length=k:=by simp[QH4]
theorem QIE (R:Nat->QHv) (k:Nat):QH6 R (k+1)=QH6 R k++[QH5 (R k)]:=by simp[QH6,List.range_succ]
theorem QIF (R:Nat->QHv) (k:Nat):(QH6 R k).length=k:=by simp[QH6]
theorem QIG (R:Nat->QHt) (k:Nat):QH7 R (k+1)=QH7 R k++[QH3 (R k).R (min (R k).n 8)]:=by simp[QH7,List.range_succ]
theorem QIH (R:Nat->QHt) (k:Nat):(QH7 R k).length=k:=by simp[QH7]
theorem QII (R:Nat->QHx) (k:Nat):QH8 R (k+1)=QH8 R k++[⟨QHP (R k).RE (min (R k).nE 60),(R k).pl⟩]:=by simp[QH8,List.range_succ]
theorem QIJ (R:Nat->QHx) (k:Nat):(QH8 R k).length=k:=by simp[QH8]
theorem QIL (R:Nat->QHp) (k:Nat):∀c∈QH3 R k,c.name.length<=40:=by
 intro c hc;simp only[QH3,List.mem_map]at hc;obtain⟨i,_,rfl⟩:=hc;exact QHe _
theorem QIM (R:Nat->QHr) (k:Nat):∀c∈QH4 R k,c.length<=40:=by
 intro c hc;simp only[QH4,List.mem_map]at hc;obtain⟨i,_,rfl⟩:=hc;exact QHe _
theorem QIN (r:QHv):(QH5 r).name.length<=40/\(∀x∈(QH5 r).regs,x.length<=40)/\(QH5 r).regs.length<=6/\(∀x∈(QH5 r).body,GW x)/\(QH5 r).body.length<=50/\∀x∈(QH5 r).body,x.e.length<=60/\x.f.length<=60:=by
 refine⟨QHe _,QIM _ _,?_,QHf _ _,?_,fun x hx=>?_⟩
 ·show(QH4 r.RR (min r.nR 6)).length<=6;rw[QID];omega
 ·show(QHb r.RB (min r.nB 50)).length<=50;rw[QHd];omega
 ·have hx':x∈QHb r.RB (min r.nB 50):=hx;simp only[QHb,List.mem_map]at hx';obtain⟨i,_,rfl⟩:=hx';refine⟨?_,?_⟩
  ·show(QHP _ _).length<=_;rw[QHR];omega
  ·show(QHP _ _).length<=_;rw[QHR];omega
theorem QIO (R:Nat->QHv) (k:Nat):∀t∈QH6 R k,∃r,t=QH5 r:=by
 intro t ht;simp only[QH6,List.mem_map]at ht;obtain⟨i,_,rfl⟩:=ht;exact⟨_,rfl⟩
theorem QIP (R:Nat->QHt) (k:Nat):∀l∈QH7 R k,l.length<=8/\∀c∈l,c.name.length<=40:=by
 intro l hl;simp only[QH7,List.mem_map]at hl;obtain⟨i,_,rfl⟩:=hl;exact⟨by rw[QIB];omega,QIL _ _⟩
theorem QIQ (R:Nat->QHx) (k:Nat):∀c∈QH8 R k,Fa c.e/\c.e.length<=60:=by
 intro c hc;simp only[QH8,List.mem_map]at hc;obtain⟨i,_,rfl⟩:=hc;exact⟨QHS _ _,by show(QHP _ _).length<=_;rw[QHR];omega⟩
theorem QIR (p:QHz):IL (QH9 p)/\Lc (QH9 p):=by
 have l1:(QH7 p.rL (min p.nL 6)).length<=6:=by rw[QIH];omega
 have l2:(QH3 p.rV (min p.nV 8)).length<=8:=by rw[QIB];omega
 have l3:(QH3 p.rK (min p.nK 8)).length<=8:=by rw[QIB];omega
 have l4:(QH6 p.rT (min p.nT 4)).length<=4:=by rw[QIF];omega
 have l5:(QH6 p.rO (min p.nO 4)).length<=4:=by rw[QIF];omega
 have l6:(QH8 p.rM (min p.nM 6)).length<=6:=by rw[QIJ];omega
 have ht:∀(R:Nat->QHv) (k:Nat),∀t∈QH6 R k,D9 t/\Ia t:=fun R k t h=>by
  obtain⟨r,rfl⟩:=QIO R k t h;obtain⟨h1,h2,h3,h4,h5,h6⟩:=QIN r;exact⟨⟨by omega,fun x hx=>by have:=h2 x hx;omega,by omega,h4,by omega⟩,⟨by omega,by omega,fun x hx=>by have:=h6 x hx;omega⟩⟩
 refine⟨⟨Nat.le_trans l1 (by omega),fun l hl=>?_,Nat.le_trans l2 (by omega),fun c hc=>?_,Nat.le_trans l3 (by omega),fun c hc=>?_,Nat.le_trans l4 (by omega),fun t h=>(ht _ _ t h).1,Nat.le_trans l5 (by omega),fun t h=>(ht _ _ t h).1,Nat.le_trans l6 (by omega),fun c hc=>?_⟩,
  ⟨Nat.le_trans l1 (by omega),fun l hl=>?_,Nat.le_trans l2 (by omega),Nat.le_trans l3 (by omega),Nat.le_trans l4 (by omega),fun t h=>(ht _ _ t h).2,Nat.le_trans l5 (by omega),fun t h=>(ht _ _ t h).2,Nat.le_trans l6 (by omega),fun c hc=>?_⟩⟩
 ·obtain⟨h1,h2⟩:=QIP _ _ l hl;exact⟨by omega,fun c hc=>by have:=h2 c hc;unfold FI;omega⟩
 ·have:=QIL _ _ c hc;unfold FI;omega
 ·have:=QIL _ _ c hc;unfold FI;omega
 ·obtain⟨h1,h2⟩:=QIQ _ _ c hc;exact⟨h1,by omega⟩
 ·have:=(QIP _ _ l hl).1;omega
 ·have:=(QIQ _ _ c hc).2;omega
theorem QIS {α:Type} (wt:α->Nat) (m:Nat):∀l:List α,(∀a∈l,wt a<=m)->sumW wt l<=l.length*(m+1)
 |[],_=>by simp[sumW]
 |a::l,h=>by
  have h1:=h a (by simp);have h2:=QIS wt m l (fun b hb=>h b (by simp[hb]));simp only[sumW,List.length_cons,Nat.succ_mul];omega
theorem QIT {p:QHz} (h:BP (QH9 p)=true):(Gv (QH9 p)).length<=900000000:=by
 have l1:(QH7 p.rL (min p.nL 6)).length<=6:=by rw[QIH];omega
 have l2:(QH3 p.rV (min p.nV 8)).length<=8:=by rw[QIB];omega
 have l3:(QH3 p.rK (min p.nK 8)).length<=8:=by rw[QIB];omega
 have l4:(QH6 p.rT (min p.nT 4)).length<=4:=by rw[QIF];omega
 have l6:(QH8 p.rM (min p.nM 6)).length<=6:=by rw[QIJ];omega
 have hr:=h;unfold BP at hr;simp only[Bool.and_eq_true,decide_eq_true_eq]at hr;have s1:=QIS List.length 8 _ (fun l hl=>(QIP p.rL (min p.nL 6) l hl).1);have s4:=QIS (fun t:Thr=>t.regs.length) 6 (QH6 p.rT (min p.nT 4)) (fun t ht=>by obtain⟨r,rfl⟩:=QIO _ _ t ht;exact(QIN r).2.2.1);have m1:(QH7 p.rL (min p.nL 6)).length*9<=54:=by omega
 have m4:(QH6 p.rT (min p.nT 4)).length*7<=28:=by omega
 exact XR h (n:=100) (by omega) ⟨Nat.le_trans s1 (by omega),Nat.le_trans l2 (by omega),Nat.le_trans l3 (by omega),Nat.le_trans s4 (by omega),hr.2,fun t ht=>by obtain⟨r,rfl⟩:=QIO _ _ t ht;have:=(QIN r).2.2.1;omega,Nat.le_trans l6 (by omega)⟩
set_option maxRecDepth 100000 in
set_option maxHeartbeats 8000000 in
theorem QIU {w:World} {B:Nat} {v:Pv} {P:Prg} (h:CP w B v P) (hs:IL P) (ht:Tabs w) (hq:BP P=false):Calls Tryz.prog 18 #[DU v] w (CE (Ek P) w):=by
 obtain⟨A1,n1,m1,A2,n2,m2,A3,n3,m3,A4,n4,m4,A5,n5,m5,A6,n6,m6,rfl⟩:=h.forms;have HP:=AA h;have HS:=AA hs;have HT:=AA ht;have HQ:=AA hq;have HR:=AA (fun w' (hb:Below w.heap.size w w')=>Tz (HP.out.on hb) HS.out (HT.out.on hb));rw[hq]at HR;have HB0:Hid (Below w.heap.size w (w.alloc (.cells #[.slice A1 n1 m1,.slice A2 n2 m2,.slice A3 n3 m3,.slice A4 n4 m4,.slice A5 n5 m5,.slice A6 n6 m6] 27))):=AA ((Below.refl _ _).alloc (Nat.le_refl _) _);have HRC:=AA (HR.out _ HB0.out);clear h hs ht hq HR;unfold DU at HRC⊢;go_enter Tryz.func18,Tryz.ntmps18;go_wp2_with fail
 refine HRC.out.mono ?_;rintro e w1 ⟨rfl,hb⟩;replace HB0:=AA (AC HB0.out hb);clear hb HRC;go_wp2_with fail
 go_ret;exact Bv rfl (by unfold Ek;rw[HQ.out];rfl) HB0.out
theorem QIV {w:World} {B:Nat} {v:Pv} {P:Prg} (h:CP w B v P) (hs:IL P) (ht:Tabs w) (hl:BP P=true->(Gv P).length<=900000000):Calls Tryz.prog 18 #[DU v] w (CE (Ek P) w):=by
 cases hq:BP P with
 |true=>exact QCH h hs ht (hl hq)
 |false=>exact QIU h hs ht hq
def QIW (l:List Cel) (w:World) (e:Ending) (w':World):Prop:=∃v,e=.returned v/\CX w' w.heap.size v l/\Below w.heap.size w w'
theorem QIX (w:World):CX (w.alloc (.cells #[] 48)) w.heap.size (.slice (some ⟨w.heap.size,0,none⟩) 0 0) []:=
 ⟨rfl,.inr ⟨w.heap.size,0,#[],rfl,Nat.le_refl _,heap_alloc_new w _,by decide,by decide,rfl,rfl⟩⟩
theorem QIY (l:List Cel) (c:Cel):(l++[c]).flatMap Bd=l.flatMap Bd++Bd c:=by simp[Bd]
theorem QIZ (r:QHp):#[.string (r.name.extract 0 (min (r.name.size:Int) 40).toNat),.int .i64 r.n,.int .i64 r.pl]=(Bd (QH2 r)).toArray:=by
 simp only[Bd,QH2];rw[QHg]
theorem QIa (w:World) (o:Obj) (b:Nat) (hb:b=w.heap.size):(w.alloc o).heap[b]?=some o:=by subst hb;exact heap_alloc_new w o
set_option maxRecDepth 100000 in
set_option maxHeartbeats 8000000 in
theorem QIb (A:Option Addr) (n c:Nat) (R:Nat->QHp) (w:World) (hA:QHq w A n R):Calls Tryz.prog 33 #[.slice A n c] w (QIW (QH3 R (min n 8)) w):=by
 obtain⟨i0,hi,hz0,hz1,hz2⟩:=info_parts On;have HZ:=AA (show Tryz.prog.info? 48=some i0/\i0.zero=some (.agg #[.string ⟨#[]⟩,.int .i64 0,.int .i64 0])/\i0.size=3/\i0.bytes=32 from⟨hi,hz0,hz1,hz2⟩);have HA:=AA hA;clear hi hz0 hz1 hz2 hA;go_enter Tryz.func33,Tryz.ntmps33;go_wp2_with fail
 go_loopw [3,4] (fun v x wr=>∃k:Nat,k<=n/\k<=8/\x=.int .i64 k/\CX wr w.heap.size v (QH3 R k)/\Below w.heap.size w wr) (fun _ x _=>8-(intOf x).toNat)
 case atStart=>exact⟨0,Nat.zero_le _,Nat.zero_le _,rfl,QIX w,(Below.refl _ _).alloc (Nat.le_refl _) _⟩
 case round=>
  obtain⟨k,hkn,hk8,rfl,hown,hbel⟩:=hrel;have HO:=AA hown;have HB:=AA hbel;have hsz:=hbel.size;clear hown;by_cases hlt:k<n
  ·by_cases hl6:k<8
   ·obtain⟨b,off,hAA,hbl,y0,y1,y2⟩:=HA.out k hlt;subst hAA;have x0:=(hbel.cell (p:=⟨b,off+k*3,none⟩) hbl).trans y0;have x1:=(hbel.cell (p:=⟨b,off+k*3+1,none⟩) hbl).trans y1;have x2:=(hbel.cell (p:=⟨b,off+k*3+2,none⟩) hbl).trans y2;have HS:=AA (QIA R k);have hrl:=QIB R k;clear y0 y1 y2 hbel;generalize R k=r at *;generalize hG:QH3 R k=G at *;have hG8:G.length<=7:=by omega
    have HCO:=AA (QIZ r);clear hrl hG;go_wp2_with (at_builtin;refine wpList_append_own _ rfl (.tmp 29) (.tmp 31) 23 rfl w.heap.size 48 i0 (.agg #[.string ⟨#[]⟩,.int .i64 0,.int .i64 0]) 3 32 Tryz.underlying23 HZ.out.1 HZ.out.2.1 HZ.out.2.2.1 HZ.out.2.2.2 rfl (by decide) _ G.length (G.flatMap Bd) rfl ?dO ⟨wr.heap.size+1,0,none⟩ 1 1 (Bd (QH2 r)) rfl rfl ?d1 ?d2 ?d3 ?d4 ?d5 ?_)
    case dO=>exact HO.out.on (((Below.refl _ _).alloc (Nat.le_refl _) _).alloc (by simp) _)
    case d1=>
     rw[HCO.out];exact World.news_of_block (cs:=(Bd (QH2 r)).toArray) (QIa _ _ _ (by simp))
    case d2=>exact Oo _
    case d3=>unfold maxLen;omega
    case d4=>omega
    case d5=>simp;omega
    intro v5 w5 hown' hgrow _;have HK5:Hid (CX w5 w.heap.size v5 (G++[QH2 r])):=AA (by unfold CX;rw[QIY,List.length_append];exact hown');have HL5:Hid (Below w.heap.size w w5):=AA (((HB.out.alloc hsz _).alloc (by simp;omega) _).grown hgrow (by simp;omega) (fun k hk=>(AM HO.out k hk).1));clear hown' hgrow x0 x1 x2;go_wp2_with fail
    go_roundw;case rel=>exact⟨k+1,by omega,by omega,by go_num,by rw[HS.out];exact HK5.out,HL5.out⟩
    case measure=>simp[intOf];omega
   ·have HE:Hid (min n 8=k):=AA (by omega);clear hbel;go_wp2_with fail
    go_ret;exact⟨_,rfl,by rw[HE.out];exact HO.out,HB.out⟩
  ·have HE:Hid (min n 8=k):=AA (by omega);clear hbel;go_wp2_with fail
   go_ret;exact⟨_,rfl,by rw[HE.out];exact HO.out,HB.out⟩
def QIc (l:List Thr) (w:World) (e:Ending) (w':World):Prop:=∃v,e=.returned v/\FT w' w.heap.size v l/\Below w.heap.size w w'
theorem QId (w:World):DY (w.alloc (.cells #[] 41)) w.heap.size (.slice (some ⟨w.heap.size,0,none⟩) 0 0) []:=
 ⟨⟨rfl,.inr ⟨w.heap.size,0,#[],rfl,Nat.le_refl _,heap_alloc_new w _,by decide,by decide,rfl,rfl⟩⟩,fun x h=>by cases h⟩
structure QIe (wx:World) (b:Nat) (r:QHv) (j:Nat) (vR vB:Value) (wj:World):Prop where
 low:Below wx.heap.size wx wj
 bx:wx.heap.size<=b
 cs:wj.heap[b]?=some (.cells #[.string (r.name.extract 0 (min (r.name.size:Int) 40).toNat),vR,vB,.int .i64 r.pl] 41 (0,0))
 regs:C9 wj wx.heap.size vR (QH4 r.RR j)
 body:Fh wj wx.heap.size vB (QHb r.RB (min r.nB 50))
def AtT (wx:World) (b:Nat) (r:QHv) (j:Nat) (wj:World):Prop:=∃vR vB,QIe wx b r j vR vB wj
theorem QIf (w:World):Below w.heap.size w (w.alloc (.cells #[.string ⟨#[]⟩,.slice none 0 0,.slice none 0 0,.int .i64 0] 41)).drew:=AC ((Below.refl _ _).alloc (Nat.le_refl _) _) (AD _)
theorem QIg (w:World):(w.alloc (.cells #[.string ⟨#[]⟩,.slice none 0 0,.slice none 0 0,.int .i64 0] 41)).drew.heap[w.heap.size]?=some (.cells #[.string ⟨#[]⟩,.slice none 0 0,.slice none 0 0,.int .i64 0] 41):=heap_alloc_new w _
theorem QIh (w:World):w.heap.size<(w.alloc (.cells #[.string ⟨#[]⟩,.slice none 0 0,.slice none 0 0,.int .i64 0] 41)).drew.heap.size:=by
 have:=heap_alloc_new w (.cells #[.string ⟨#[]⟩,.slice none 0 0,.slice none 0 0,.int .i64 0] 41);exact(Array.getElem?_eq_some_iff.1 this).1
theorem QIi (w:World) (B:Nat) (r:QHv):C9 w B (.slice none 0 0) (QH4 r.RR 0):=Ky w B
theorem QIj {w:World} {b B:Nat} {cs:Array Value} {T:TypeId} {Ts:List TypeId} (h:w.heap[b]?=some (.cells cs T (0,0))) (hT:T∉Ts):Av (fun q=>q=b) w B Ts:=fun q cs' T' _ hh hT' e=>by
 subst e;rw[h]at hh;simp only[Option.some.injEq,Obj.cells.injEq]at hh;exact hT (hh.2.1▸hT')
theorem QIk {wx w1:World} {r:QHv} {vB:Value} {B:Nat} (h:Below wx.heap.size wx w1) (hx:w1.heap[wx.heap.size]?=some (.cells #[.string ⟨#[]⟩,.slice none 0 0,.slice none 0 0,.int .i64 0] 41 (0,0))) (ho:Fh w1 B vB (QHb r.RB (min r.nB 50))) (hB:wx.heap.size<=B):
  AtT wx wx.heap.size r 0 ((((w1.setCell ⟨wx.heap.size,0,none⟩ (.string (r.name.extract 0 (min (r.name.size:Int) 40).toNat))).setCell ⟨wx.heap.size,1,none⟩ (.slice none 0 0)).setCell ⟨wx.heap.size,2,none⟩ vB).setCell ⟨wx.heap.size,3,none⟩ (.int .i64 r.pl)):=by
 have hk:AG (fun q=>q=wx.heap.size) w1 ((((w1.setCell ⟨wx.heap.size,0,none⟩ (.string (r.name.extract 0 (min (r.name.size:Int) 40).toNat))).setCell ⟨wx.heap.size,1,none⟩ (.slice none 0 0)).setCell ⟨wx.heap.size,2,none⟩ vB).setCell ⟨wx.heap.size,3,none⟩ (.int .i64 r.pl)):=
  BH (BH (BH (BH (AG.refl _ _) rfl) rfl) rfl) rfl
 refine⟨.slice none 0 0,vB,⟨h.trans (hk.below (fun k hk e=>by omega) h.size),Nat.le_refl _,?_,QIi _ _ r,(ho.base hB).keepT hk (QIj hx (by decide))⟩⟩;have h0:(w1.setCell ⟨wx.heap.size,0,none⟩ (.string (r.name.extract 0 (min (r.name.size:Int) 40).toNat))).heap[wx.heap.size]?=some (.cells #[.string (r.name.extract 0 (min (r.name.size:Int) 40).toNat),.slice none 0 0,.slice none 0 0,.int .i64 0] 41 (0,0)):=As hx
 have h1:((w1.setCell ⟨wx.heap.size,0,none⟩ (.string (r.name.extract 0 (min (r.name.size:Int) 40).toNat))).setCell ⟨wx.heap.size,1,none⟩ (.slice none 0 0)).heap[wx.heap.size]?=some (.cells #[.string (r.name.extract 0 (min (r.name.size:Int) 40).toNat),.slice none 0 0,.slice none 0 0,.int .i64 0] 41 (0,0)):=As h0
 have h2:(((w1.setCell ⟨wx.heap.size,0,none⟩ (.string (r.name.extract 0 (min (r.name.size:Int) 40).toNat))).setCell ⟨wx.heap.size,1,none⟩ (.slice none 0 0)).setCell ⟨wx.heap.size,2,none⟩ vB).heap[wx.heap.size]?=some (.cells #[.string (r.name.extract 0 (min (r.name.size:Int) 40).toNat),.slice none 0 0,vB,.int .i64 0] 41 (0,0)):=As h1;exact As h2
theorem QIl {wx w1:World} {r:QHv} {vB:Value} {B:Nat} (h:Below wx.heap.size wx w1) (ho:Fh w1 B vB (QHb r.RB (min r.nB 50))) (hB:wx.heap.size<=B):
  AtT wx w1.heap.size r 0 (w1.alloc (.cells #[.string (r.name.extract 0 (min (r.name.size:Int) 40).toNat),.slice none 0 0,vB,.int .i64 r.pl] 41)):=
 ⟨.slice none 0 0,vB,⟨h.alloc h.size _,h.size,heap_alloc_new _ _,QIi _ _ r,(ho.base hB).keepT (AG.of (P:=fun _=>False) ((Below.refl _ _).alloc (Nat.le_refl _) _)) Av.none⟩⟩
theorem QIe.more {wx wj w5:World} {b j:Nat} {r:QHv} {vR vB v5:Value} {o:Obj} (h:QIe wx b r j vR vB wj) (hg:(wj.drew.alloc o).grownBy w5 vR.ownBlock)
  (ho:w5.ownsRow wx.heap.size 9 1 v5 (j+1) ((QH4 r.RR j).map MA++[.string ((r.RR j).s.extract 0 (min ((r.RR j).s.size:Int) 40).toNat)])):AtT wx b r (j+1) (w5.setCell ⟨b,1,none⟩ v5):=by
 have hB1:Below wj.heap.size wj (wj.drew.alloc o):=(AD wj).alloc (Nat.le_refl _) o;have hk1:AG (fun q=>vR.ownBlock=some q) wj w5:=ES hB1 (AG.grown hg);have hlt:b<wj.heap.size:=(Array.getElem?_eq_some_iff.1 h.cs).1;have hty:∀q,vR.ownBlock=some q->wx.heap.size<=q/\∃cs,wj.heap[q]?=some (.cells cs 9 (0,0)):=AM h.regs;have hne:¬vR.ownBlock=some b:=fun e=>by
  obtain⟨_,cs,h5⟩:=hty b e;rw[h.cs]at h5;simp at h5
 have hx5:w5.heap[b]?=some (.cells #[.string (r.name.extract 0 (min (r.name.size:Int) 40).toNat),vR,vB,.int .i64 r.pl] 41 (0,0)):=(hk1.block b hlt hne).trans h.cs;have hks:AG (fun q=>q=b) w5 (w5.setCell ⟨b,1,none⟩ v5):=AG.set;have h5:Below wx.heap.size wx w5:=h.low.trans (hk1.below (fun q hq e=>by have:=(hty q e).1;omega) h.low.size);refine⟨v5,vB,⟨h5.trans (hks.below (fun q hq e=>by have:=h.bx;omega) h5.size),h.bx,As hx5,?_,(h.body.keepT hk1 (fun q cs T hB hh hT e=>?_)).keepT hks (QIj hx5 (by decide))⟩⟩
 ·have e1:QH4 r.RR (j+1)=QH4 r.RR j++[QHZ (r.RR j).s]:=QIC _ _;have e2:((QH4 r.RR j).map MA++[.string ((r.RR j).s.extract 0 (min ((r.RR j).s.size:Int) 40).toNat)])=(QH4 r.RR (j+1)).map MA:=by
   rw[e1,List.map_append];show _++[_]=_++[Value.string ⟨(QHZ (r.RR j).s).toArray⟩];rw[QHg]
  unfold C9;rw[<-e2,QID];refine AW ho hks (fun q hq e=>?_);obtain⟨_,cs,h6⟩:=AM ho q hq;rw[e,hx5]at h6;simp at h6
 ·obtain⟨_,cs1,h6⟩:=hty q e;rw[h6]at hh;simp only[Option.some.injEq,Obj.cells.injEq]at hh;rw[<-hh.2.1]at hT;simp at hT
theorem QIm {s:ByteArray}:∀u∈[Value.string s],u.oneCell'=true:=by
 intro u hu;simp at hu;subst hu;rfl
theorem QIn {P:Program} {c:Code} {Q:Exit->Act->World->Prop} {a:Act} {w:World} (h:∀K:Act->World->Prop,(∀a w,Q .normal a w->K a w)->c.wp P (Exit.then K Q) a w):c.wp P Q a w:=by
 have h1:=h (Q .normal) (fun _ _ h=>h);have e:Exit.then (Q .normal) Q=Q:=by funext e a w;cases e<;>rfl
 rwa [e]at h1
theorem QIo {l:List Oper} {i:Nat} {o:Oper} (h:l[i]?=some o):l.toArray[i]?=some o:=by simpa using h
theorem tkH {P:Program} {l:List Oper} {md:Region.Mode} {Q:Exit->Act->World->Prop} {S:World->Prop} {o:Oper} {v:Value} {fuel:Nat} {listed:Array Bool} {a:Act} {w:World} (i:Nat) (hi:l[i]?=some o)
  (hk:(Region.noSelect l.toArray&&(Region.free md l.toArray listed i&&(Region.ready md l.toArray listed).contains i))=true)
  (hQ:∀c a w,Q (.panic c) (a.put o.dst v) w->Q (.panic c) a w) (hS:S w) (hw:Region.wanted o (yielded l.toArray a.tmps)=true) (hv:∀w,S w->(execOp a.eval o).run P w=.ok (.value v) w)
  (h:wpAnyH P md l.toArray Q S fuel (listed.setIfInBounds i true) (a.put o.dst v) w):wpAnyH P md l.toArray Q S (fuel+1) listed a w:=by
 simp only[Bool.and_eq_true]at hk;exact wpAnyH_take (QIo hi) hk.1 hk.2.1 hk.2.2 hQ (Or.inl ⟨hw,hv⟩) hS h
theorem QIp {w w':World} (h:Below w.heap.size w w'):Below w.heap.size w w'.drew:=AC h (AD _)
structure QIq (w:World) (p:QHz) (d i j:Nat) (u:Pv) (wj:World):Prop where
 low:Below w.heap.size w wj
 bx:wj.heap[w.heap.size]?=some (.cells #[.slice p.aL p.nL p.cL,.slice p.aV p.nV p.cV,.slice p.aK p.nK p.cK,.slice p.aT p.nT p.cT,.slice p.aO p.nO p.cO,.slice p.aM p.nM p.cM] 27 (0,0))
 rx:wj.heap[w.heap.size+1]?=some (.cells #[.slice none 0 0,.slice none 0 0,.slice none 0 0,.slice none 0 0,.slice none 0 0,.slice none 0 0] 27 (0,0))
 dx:w.heap.size+1<d
 cs:wj.heap[d]?=some (.cells #[u.a,u.b,u.c,u.d,u.e,u.f] 27 (0,0))
 own:CP wj w.heap.size u ⟨QH7 p.rL i,QH3 p.rV (min p.nV 8),QH3 p.rK (min p.nK 8),QH6 p.rT (min p.nT 4),QH6 p.rO (min p.nO 4),QH8 p.rM j⟩
def AtQ (w:World) (p:QHz) (d i j:Nat) (wj:World):Prop:=∃u,QIq w p d i j u wj
theorem QIr {w:World} {d B:Nat} {cs:Array Value} {Ts:List TypeId} (h:w.heap[d]?=some (.cells cs 27 (0,0))) (hT:(27:TypeId)∉Ts):Av (fun q=>q=d) w B Ts:=QIj h hT
theorem QIs {w X:World} {p:QHz} {d B2 B3 B4 B5:Nat} {v2 v3 v4 v5:Value} (h0:Below w.heap.size w X) (hb:X.heap[w.heap.size]?=some (.cells #[.slice p.aL p.nL p.cL,.slice p.aV p.nV p.cV,.slice p.aK p.nK p.cK,.slice p.aT p.nT p.cT,.slice p.aO p.nO p.cO,.slice p.aM p.nM p.cM] 27 (0,0))) (hr:X.heap[w.heap.size+1]?=some (.cells #[.slice none 0 0,.slice none 0 0,.slice none 0 0,.slice none 0 0,.slice none 0 0,.slice none 0 0] 27 (0,0)))
  (hd:w.heap.size+1<d) (hc:X.heap[d]?=some (.cells #[.slice none 0 0,.slice none 0 0,.slice none 0 0,.slice none 0 0,.slice none 0 0,.slice none 0 0] 27 (0,0))) (o2:CX X B2 v2 (QH3 p.rV (min p.nV 8))) (o3:CX X B3 v3 (QH3 p.rK (min p.nK 8))) (o4:FT X B4 v4 (QH6 p.rT (min p.nT 4))) (o5:FT X B5 v5 (QH6 p.rO (min p.nO 4)))
  (hB:w.heap.size<=B2/\w.heap.size<=B3/\w.heap.size<=B4/\w.heap.size<=B5):
  AtQ w p d 0 0 ((((((X.setCell ⟨d,0,none⟩ (.slice none 0 0)).setCell ⟨d,1,none⟩ v2).setCell ⟨d,2,none⟩ v3).setCell ⟨d,3,none⟩ v4).setCell ⟨d,4,none⟩ v5).setCell ⟨d,5,none⟩ (.slice none 0 0)):=by
 have hk:=QCR (d:=d) X (.slice none 0 0) v2 v3 v4 v5 (.slice none 0 0);have hf:=QEF hc (.slice none 0 0) v2 v3 v4 v5 (.slice none 0 0);generalize((((((X.setCell ⟨d,0,none⟩ (.slice none 0 0)).setCell ⟨d,1,none⟩ v2).setCell ⟨d,2,none⟩ v3).setCell ⟨d,3,none⟩ v4).setCell ⟨d,4,none⟩ v5).setCell ⟨d,5,none⟩ (.slice none 0 0))=Y at *;have e:∀q,q<d->q<X.heap.size->Y.heap[q]?=X.heap[q]?:=fun q h1 h2=>hk.block q h2 (by omega)
 have l1:=(Array.getElem?_eq_some_iff.1 hb).1;have l2:=(Array.getElem?_eq_some_iff.1 hr).1;exact⟨⟨.slice none 0 0,v2,v3,v4,v5,.slice none 0 0⟩,h0.trans (hk.below (fun q hq e=>by omega) h0.size),by rw[e _ (by omega) l1];exact hb,by rw[e _ (by omega) l2];exact hr,hd,hf,
  ⟨QI _ _,(o2.base hB.1).keepT hk (QIr hc (by decide)),(o3.base hB.2.1).keepT hk (QIr hc (by decide)),(o4.base hB.2.2.1).keepT hk (QIr hc (by decide)),(o5.base hB.2.2.2).keepT hk (QIr hc (by decide)),QJ _ _⟩⟩
theorem QIt {w X:World} {p:QHz} {B2 B3 B4 B5:Nat} {v2 v3 v4 v5:Value} (h0:Below w.heap.size w X) (hb:X.heap[w.heap.size]?=some (.cells #[.slice p.aL p.nL p.cL,.slice p.aV p.nV p.cV,.slice p.aK p.nK p.cK,.slice p.aT p.nT p.cT,.slice p.aO p.nO p.cO,.slice p.aM p.nM p.cM] 27 (0,0))) (hr:X.heap[w.heap.size+1]?=some (.cells #[.slice none 0 0,.slice none 0 0,.slice none 0 0,.slice none 0 0,.slice none 0 0,.slice none 0 0] 27 (0,0)))
  (o2:CX X B2 v2 (QH3 p.rV (min p.nV 8))) (o3:CX X B3 v3 (QH3 p.rK (min p.nK 8))) (o4:FT X B4 v4 (QH6 p.rT (min p.nT 4))) (o5:FT X B5 v5 (QH6 p.rO (min p.nO 4)))
  (hB:w.heap.size<=B2/\w.heap.size<=B3/\w.heap.size<=B4/\w.heap.size<=B5):
  AtQ w p X.heap.size 0 0 (X.alloc (.cells #[.slice none 0 0,v2,v3,v4,v5,.slice none 0 0] 27)):=by
 have hA:Below X.heap.size X (X.alloc (.cells #[.slice none 0 0,v2,v3,v4,v5,.slice none 0 0] 27)):=(Below.refl _ _).alloc (Nat.le_refl _) _;have hn:=heap_alloc_new X (.cells #[.slice none 0 0,v2,v3,v4,v5,.slice none 0 0] 27);generalize X.alloc (.cells #[.slice none 0 0,v2,v3,v4,v5,.slice none 0 0] 27)=Y at *;have l1:=(Array.getElem?_eq_some_iff.1 hb).1;have l2:=(Array.getElem?_eq_some_iff.1 hr).1;exact⟨⟨.slice none 0 0,v2,v3,v4,v5,.slice none 0 0⟩,AC h0 hA,(hA.block _ l1).trans hb,(hA.block _ l2).trans hr,by omega,hn,
  ⟨QI _ _,(o2.base hB.1).on hA,(o3.base hB.2.1).on hA,(o4.base hB.2.2.1).on hA,(o5.base hB.2.2.2).on hA,QJ _ _⟩⟩
theorem QIu {w:World} {B T m n:Nat} {v:Value} {xs:List Value} {B':Nat} {Ts:List TypeId} (h:w.ownsRow B T m v n xs) (hT:T∉Ts):Av (fun q=>v.ownBlock=some q) w B' Ts:=fun q cs' T' _ hh hT' e=>by
 obtain⟨_,cs,h5⟩:=AM h q e;rw[h5]at hh;simp only[Option.some.injEq,Obj.cells.injEq]at hh;exact hT (hh.2.1▸hT')
theorem QIq.line {w wj w1 w5:World} {p:QHz} {d i j B:Nat} {u:Pv} {K:List Lv} {vC v5:Value} {o:Obj} (h:QIq w p d i j u wj) (hK:E9 wj w.heap.size u.a K) (hm:K.map (·.l)=QH7 p.rL i) (hb:Below wj.heap.size wj w1)
  (ho:CX w1 B vC (QH3 (p.rL i).R (min (p.rL i).n 8))) (hB:wj.heap.size<=B) (hg:(w1.alloc o).grownBy w5 u.a.ownBlock) (hr:w5.ownsRow w.heap.size 23 1 v5 (K.length+1) (K.map (·.v)++[vC])):AtQ w p d (i+1) j (w5.setCell ⟨d,0,none⟩ v5):=by
 have hA:Below wj.heap.size wj (w1.alloc o):=AC hb ((Below.refl _ _).alloc (Nat.le_refl _) o);have hA1:Below w1.heap.size w1 (w1.alloc o):=(Below.refl _ _).alloc (Nat.le_refl _) o;have hsz:=h.low.size;have hKA:=hK.on hA;have hk5:AG (fun q=>u.a.ownBlock=some q) (w1.alloc o) w5:=AG.grown hg;have hkj:AG (fun q=>u.a.ownBlock=some q) wj w5:=ES hA hk5;have hks:AG (fun q=>q=d) w5 (w5.setCell ⟨d,0,none⟩ v5):=AG.set;have hty:=AM hK.row;have hn:∀(q:Nat) (cs:Array Value),wj.heap[q]?=some (.cells cs 27 (0,0))->¬u.a.ownBlock=some q:=fun q cs hq e=>by
  obtain⟨_,cs',h5⟩:=hty q e;rw[hq]at h5;simp at h5
 have g:∀(q:Nat) (cs:Array Value),wj.heap[q]?=some (.cells cs 27 (0,0))->w5.heap[q]?=some (.cells cs 27 (0,0)):=fun q cs hq=>(hkj.block q (Array.getElem?_eq_some_iff.1 hq).1 (hn q cs hq)).trans hq
 have h5:Below w.heap.size w w5:=h.low.trans (hkj.below (fun q hq e=>by have:=(hty q e).1;omega) hsz);have hdd:=h.dx;have e:∀q,q<d->q<w5.heap.size->(w5.setCell ⟨d,0,none⟩ v5).heap[q]?=w5.heap[q]?:=fun q h1 h2=>hks.block q h2 (by omega)
 have l1:=(Array.getElem?_eq_some_iff.1 (g _ _ h.bx)).1;have l2:=(Array.getElem?_eq_some_iff.1 (g _ _ h.rx)).1;have hcs:=g _ _ h.cs;have aL:=QEA (x:=⟨QH3 (p.rL i).R (min (p.rL i).n 8),vC⟩) hKA ((ho.base (Nat.le_trans hsz hB)).on hA1) hg hr;refine⟨⟨v5,u.b,u.c,u.d,u.e,u.f⟩,h5.trans (hks.below (fun q hq e=>by omega) h5.size),by rw[e _ (by omega) l1];exact g _ _ h.bx,by rw[e _ (by omega) l2];exact g _ _ h.rx,h.dx,As hcs,?_⟩;have f:=h.own;exact⟨⟨K++[⟨QH3 (p.rL i).R (min (p.rL i).n 8),vC⟩],aL.keepT hks (QIr hcs (by decide)),by rw[List.map_append,hm,QIG];rfl⟩,
  (f.vols.keepT hkj (QIu hK.row (by decide))).keepT hks (QIr hcs (by decide)),(f.locks.keepT hkj (QIu hK.row (by decide))).keepT hks (QIr hcs (by decide)),
  (f.threads.keepT hkj (QIu hK.row (by decide))).keepT hks (QIr hcs (by decide)),(f.recs.keepT hkj (QIu hK.row (by decide))).keepT hks (QIr hcs (by decide)),(f.claims.keepT hkj (QIu hK.row (by decide))).keepT hks (QIr hcs (by decide))⟩
theorem QIq.claim {w wj w1 w5:World} {p:QHz} {d i j B:Nat} {u:Pv} {K:List Cv} {vE v5:Value} {o:Obj} (h:QIq w p d i j u wj) (hK:ER wj w.heap.size u.f K) (hm:K.map (·.c)=QH8 p.rM j) (hb:Below wj.heap.size wj w1)
  (ho:CY B w1 vE (QHP (p.rM j).RE (min (p.rM j).nE 60))) (hB:wj.heap.size<=B) (hg:(w1.alloc o).grownBy w5 u.f.ownBlock) (hr:w5.ownsRow w.heap.size 50 2 v5 (K.length+1) (K.flatMap GY++[vE,.int .i64 (p.rM j).pl])):AtQ w p d i (j+1) (w5.setCell ⟨d,5,none⟩ v5):=by
 have hA:Below wj.heap.size wj (w1.alloc o):=AC hb ((Below.refl _ _).alloc (Nat.le_refl _) o);have hA1:Below w1.heap.size w1 (w1.alloc o):=(Below.refl _ _).alloc (Nat.le_refl _) o;have hsz:=h.low.size;have hKA:=hK.on hA;have hk5:AG (fun q=>u.f.ownBlock=some q) (w1.alloc o) w5:=AG.grown hg;have hkj:AG (fun q=>u.f.ownBlock=some q) wj w5:=ES hA hk5;have hks:AG (fun q=>q=d) w5 (w5.setCell ⟨d,5,none⟩ v5):=AG.set;have hty:=AM hK.row;have hn:∀(q:Nat) (cs:Array Value),wj.heap[q]?=some (.cells cs 27 (0,0))->¬u.f.ownBlock=some q:=fun q cs hq e=>by
  obtain⟨_,cs',h5⟩:=hty q e;rw[hq]at h5;simp at h5
 have g:∀(q:Nat) (cs:Array Value),wj.heap[q]?=some (.cells cs 27 (0,0))->w5.heap[q]?=some (.cells cs 27 (0,0)):=fun q cs hq=>(hkj.block q (Array.getElem?_eq_some_iff.1 hq).1 (hn q cs hq)).trans hq
 have h5:Below w.heap.size w w5:=h.low.trans (hkj.below (fun q hq e=>by have:=(hty q e).1;omega) hsz);have hdd:=h.dx;have e:∀q,q<d->q<w5.heap.size->(w5.setCell ⟨d,5,none⟩ v5).heap[q]?=w5.heap[q]?:=fun q h1 h2=>hks.block q h2 (by omega)
 have l1:=(Array.getElem?_eq_some_iff.1 (g _ _ h.bx)).1;have l2:=(Array.getElem?_eq_some_iff.1 (g _ _ h.rx)).1;have hcs:=g _ _ h.cs;have aL:=QEC (x:=⟨⟨QHP (p.rM j).RE (min (p.rM j).nE 60),(p.rM j).pl⟩,vE⟩) hKA ((ho.base (Nat.le_trans hsz hB)).on hA1) hg hr;refine⟨⟨u.a,u.b,u.c,u.d,u.e,v5⟩,h5.trans (hks.below (fun q hq e=>by omega) h5.size),by rw[e _ (by omega) l1];exact g _ _ h.bx,by rw[e _ (by omega) l2];exact g _ _ h.rx,h.dx,As hcs,?_⟩;have f:=h.own;exact⟨(f.lines.keepT hkj (QIu hK.row (by decide))).keepT hks (QIr hcs (by decide)),
  (f.vols.keepT hkj (QIu hK.row (by decide))).keepT hks (QIr hcs (by decide)),(f.locks.keepT hkj (QIu hK.row (by decide))).keepT hks (QIr hcs (by decide)),
  (f.threads.keepT hkj (QIu hK.row (by decide))).keepT hks (QIr hcs (by decide)),(f.recs.keepT hkj (QIu hK.row (by decide))).keepT hks (QIr hcs (by decide)),
  ⟨K++[⟨⟨QHP (p.rM j).RE (min (p.rM j).nE 60),(p.rM j).pl⟩,vE⟩],aL.keepT hks (QIr hcs (by decide)),by rw[List.map_append,hm,QII];rfl⟩⟩
set_option maxRecDepth 100000 in
set_option maxHeartbeats 64000000 in
theorem QIv (A:Option Addr) (n c:Nat) (R:Nat->QHv) (w:World) (hA:QHw w A n R):Calls Tryz.prog 34 #[.slice A n c] w (QIc (QH6 R (min n 4)) w):=by
 obtain⟨i0,hi,hz0,hz1,hz2⟩:=info_parts QCM;have HZ:=AA (show Tryz.prog.info? 41=some i0/\i0.zero=some (.agg #[.string ⟨#[]⟩,.slice none 0 0,.slice none 0 0,.int .i64 0])/\i0.size=4/\i0.bytes=72 from⟨hi,hz0,hz1,hz2⟩);obtain⟨i1,hj,hy0,hy1,hy2⟩:=info_parts TY;have HY:=AA (show Tryz.prog.info? 9=some i1/\i1.zero=some (.string ⟨#[]⟩)/\i1.size=1/\i1.bytes=16 from⟨hj,hy0,hy1,hy2⟩);have HA:=AA hA;clear hi hz0 hz1 hz2 hj hy0 hy1 hy2 hA;go_enter Tryz.func34,Tryz.ntmps34;go_wp2_with fail
 go_loopw [3,4] (fun v x wr=>∃(k:Nat) (K:List Tv),k<=n/\k<=4/\x=.int .i64 k/\DY wr w.heap.size v K/\K.map (·.t)=QH6 R k/\Below w.heap.size w wr) (fun _ x _=>4-(intOf x).toNat)
 case atStart=>exact⟨0,[],Nat.zero_le _,Nat.zero_le _,rfl,QId w,rfl,(Below.refl _ _).alloc (Nat.le_refl _) _⟩
 case round=>
  obtain⟨k,K,hkn,hk4,rfl,hown,hmap,hbel⟩:=hrel;obtain⟨wx,hwx⟩:∃x:World,x=wr:=⟨_,rfl⟩
  subst hwx;have HO:=AA hown;have HB:=AA hbel;have hsz:=hbel.size;have HKL:Hid (K.length=k):=AA (by have:=congrArg List.length hmap;rw[List.length_map,QIF]at this;exact this);have HMP:=AA hmap;obtain⟨A0,c0,rfl, -, -, -⟩:=hown.reads;by_cases hlt:k<n
  ·by_cases hl6:k<4
   ·obtain⟨b,off,hAA,hbl,y0,y1,y2,y3,hw,hs⟩:=HA.out.on hbel k hlt;subst hAA;have HS:=AA (QIE R k);have HW:=AA hw;have HST:=AA hs;clear hown hmap hbel hw hs;generalize R k=r at *;have HC:=AA (fun W' (hb:Below wx.heap.size wx W')=>QHo r.AB r.nB r.cB r.RB W' (HST.out.on hb));have HX:=AA (fun W' (hb:Below wx.heap.size wx W')=>(show W'.cell? ⟨b,off+k*4,none⟩=some (.string r.name)/\W'.cell? ⟨b,off+k*4+2,none⟩=some (.slice r.AB r.nB r.cB)/\W'.cell? ⟨b,off+k*4+3,none⟩=some (.int .i64 r.pl)from
     ⟨(hb.cell (p:=⟨b,off+k*4,none⟩) hbl).trans y0,(hb.cell (p:=⟨b,off+k*4+2,none⟩) hbl).trans y2,(hb.cell (p:=⟨b,off+k*4+3,none⟩) hbl).trans y3⟩))
    have HX1:=AA (fun W' (hb:Below wx.heap.size wx W')=>(hb.cell (p:=⟨b,off+k*4+1,none⟩) hbl).trans y1);have S0:=HX.out wx (Below.refl _ _);have hk0:(0:Int)<=(k:Int):=by omega
    have hkn':(k:Int)<(n:Int):=by omega
    have hm0:(0:Int)<=min (r.name.size:Int) 40:=by omega
    have hm1:min (r.name.size:Int) 40<=(r.name.size:Int):=by omega
    have HBZ:=AA (QIf wx);have HBF:=AA (QIg wx);clear y0 y1 y2 y3;go_upto_region 5 with(fail)
    go_cut [5]from 8 to 84 (fun t wj=>∃bb:Nat,t=.pointer (some ⟨bb,0,none⟩)/\AtT wx bb r 0 wj)
    case first=>
     go_wp2_with fail
     go_region_held3 (fun w'=>w'.cell? ⟨b,off+k*4,none⟩=some (.string r.name)/\w'.cell? ⟨b,off+k*4+2,none⟩=some (.slice r.AB r.nB r.cB)/\w'.cell? ⟨b,off+k*4+3,none⟩=some (.int .i64 r.pl)) (first|with_reducible assumption|exact S0|exact HX.out _ HBZ.out|exact HX.out _ (B1.alloc (by have:=B1.size;omega) _)|exact HX.out _ (((((B1.setCell (by exact Nat.le_refl _) _).setCell (by exact Nat.le_refl _) _).setCell (by exact Nat.le_refl _) _).setCell (by exact Nat.le_refl _) _)))
      (first
      |(go_at_call_of 91 (Value.slice r.AB r.nB r.cB);refine(HC.out _ (by exact HBZ.out)).mono ?_;rintro e1 w1 ⟨v1,rfl,o1,⟨g1,c1,rfl⟩,hb1⟩;have B1:Below wx.heap.size wx w1:=AC HBZ.out hb1;have S1:=HX.out w1 B1;have hx1:=(hb1.block wx.heap.size (QIh wx)).trans HBF.out;have y0:w1.cell? ⟨wx.heap.size,0,none⟩=some (.string ⟨#[]⟩):=(by rw[Lib.cell_of_heap hx1];rfl);have y1:w1.cell? ⟨wx.heap.size,1,none⟩=some (.slice none 0 0):=(by rw[Lib.cell_of_heap hx1];rfl);have y2:w1.cell? ⟨wx.heap.size,2,none⟩=some (.slice none 0 0):=(by rw[Lib.cell_of_heap hx1];rfl);have y3:w1.cell? ⟨wx.heap.size,3,none⟩=some (.int .i64 0):=(by rw[Lib.cell_of_heap hx1];rfl);have z0:w1.frozen? ⟨wx.heap.size,0,none⟩=false:=Lib.frozen_of_heap hx1 0;have z1:w1.frozen? ⟨wx.heap.size,1,none⟩=false:=Lib.frozen_of_heap hx1 1;have z2:w1.frozen? ⟨wx.heap.size,2,none⟩=false:=Lib.frozen_of_heap hx1 2;have z3:w1.frozen? ⟨wx.heap.size,3,none⟩=false:=Lib.frozen_of_heap hx1 3;have ATA:=AA (QIk B1 hx1 o1 HBZ.out.size))
      |(go_at_call_of 91 (Value.slice r.AB r.nB r.cB);refine(HC.out _ (by first|exact Below.refl _ _|exact AD _)).mono ?_;rintro e1 w1 ⟨v1,rfl,o1,⟨g1,c1,rfl⟩,hb1⟩;have B1:Below wx.heap.size wx w1:=(by first|exact hb1|exact AC (AD _) hb1);have S1:=HX.out w1 B1;have ATB:=AA (QIl B1 o1 (Nat.le_refl _))))
     all_goals
      go_wp2_with fail
      go_meet;case rel=>first|exact⟨_,rfl,ATA.out⟩|exact⟨_,rfl,ATB.out⟩
    case rest=>
     obtain⟨bb,rfl,hat⟩:=hcut;clear HX S0 HBZ HBF hm0 hm1 HC;have HAT:=AA hat;clear hat;go_wp2_with fail
     go_loopw [6] (fun x wj=>∃j:Nat,j<=r.nR/\j<=6/\x=.int .i64 j/\AtT wx bb r j wj) (fun x _=>6-(intOf x).toNat)
     case atStart=>exact⟨0,Nat.zero_le _,Nat.zero_le _,rfl,HAT.out⟩
     case round=>
      obtain⟨j,hjn,hj6,rfl,hat⟩:=hrel;obtain⟨wj,hwj0⟩:∃x:World,x=wr:=⟨_,rfl⟩
      subst hwj0;have hjl:=QID r.RR j;have p1:=HX1.out wj (by obtain⟨_,_,h⟩:=hat;exact h.low);have hj0:(0:Int)<=(j:Int):=by omega
      by_cases hjj:j<r.nR/\j<6
      ·obtain⟨hjlt,hj5⟩:=hjj;obtain⟨vR,vB,hbox⟩:=hat;obtain⟨b2,off2,hAR,hbl2,s0⟩:=HW.out.on hbox.low j hjlt;have HBX:=AA hbox;have HSS:=AA (fun W' (hb:Below wx.heap.size wx W')=>(show W'.cell? ⟨b,off+k*4+1,none⟩=some (.slice (some ⟨b2,off2,none⟩) r.nR r.cR)/\W'.cell? ⟨b2,off2+j,none⟩=some (.string (r.RR j).s)from
        ⟨by rw[<-hAR];exact HX1.out W' hb,by
         obtain⟨b3,off3,h1,_,h2⟩:=(HW.out.on hb) j hjlt;rw[hAR]at h1;simp only[Option.some.injEq,Addr.mk.injEq,and_true]at h1;obtain⟨rfl,rfl⟩:=h1;exact h2⟩))
       rw[hAR]at p1;have S0:=HSS.out wj hbox.low;obtain⟨A1,c1,rfl, -, -, -⟩:=hbox.regs.reads;have z1:wj.cell? ⟨bb,1,none⟩=some (.slice A1 (QH4 r.RR j).length c1):=by rw[Lib.cell_of_heap hbox.cs];rfl
       have f1:wj.frozen? ⟨bb,1,none⟩=false:=Lib.frozen_of_heap hbox.cs 1;rw[hjl]at z1 HBX;have hbl:bb<wj.heap.size:=(Array.getElem?_eq_some_iff.1 hbox.cs).1;have HNO:Hid (∀q,(Value.slice A1 j c1).ownBlock=some q->q≠bb):=AA (fun q hq e=>by
        obtain⟨_,cs,h5⟩:=AM HBX.out.regs q hq;rw[e,HBX.out.cs]at h5;simp at h5)
       have hrow:wj.ownsRow wx.heap.size 9 1 (.slice A1 j c1) j ((QH4 r.RR j).map MA):=by have h:=HBX.out.regs;unfold C9 at h;rw[hjl]at h;exact h
       have HROW:=AA hrow;have hjn2:(j:Int)<(r.nR:Int):=by omega
       have hwxj:=hbox.low.size;have HWX:=AA hwxj;have BA:Below wx.heap.size wx (wj.drew.alloc (.cells #[.string ((r.RR j).s.extract 0 (min ((r.RR j).s.size:Int) 40).toNat)] 9)):=(hbox.low.trans ((AD wj).mono hbox.low.size)).alloc hbox.low.size _;have hm0:(0:Int)<=min ((r.RR j).s.size:Int) 40:=by omega
       have hm1:min ((r.RR j).s.size:Int) 40<=((r.RR j).s.size:Int):=by omega
       have HS8:Hid (wx.heap.size<=bb):=AA hbox.bx;clear hbox s0 hrow hwxj hjl p1;go_upto_region 9 with(fail)
       refine QIn (fun J hJ=>?_)
       go_cut []from 43 to 80 (fun wy=>AtT wx bb r (j+1) wy)
       case first=>
        have S0d:=HSS.out _ (QIp HBX.out.low);have S0A:=HSS.out ((wj.alloc (.cells #[.string ((r.RR j).s.extract 0 (min ((r.RR j).s.size:Int) 40).toNat)] 9)).drew) BA;go_wp2_with fail
        refine wp_region_held_drew (S:=(fun w'=>w'.cell? ⟨b,off+k*4+1,none⟩=some (.slice (some ⟨b2,off2,none⟩) r.nR r.cR)/\w'.cell? ⟨b2,off2+j,none⟩=some (.string (r.RR j).s))) (by kernel_rfl) (S0d) (fun hH=>?_);refine tkH (v:=?_) 0 rfl (by kernel_rfl) (fun _ _ _ h=>h) hH (by rfl) ?_ ?_
        rotate_left
        ·(rintro wq ⟨s0,s1⟩;go_simp<;>with_reducible rfl)
        refine tkH (v:=?_) 2 rfl (by kernel_rfl) (fun _ _ _ h=>h) hH (by rfl) ?_ ?_
        rotate_left
        ·(rintro wq ⟨s0,s1⟩;go_simp<;>with_reducible rfl)
        refine tkH (v:=?_) 3 rfl (by kernel_rfl) (fun _ _ _ h=>h) hH (by rfl) ?_ ?_
        rotate_left
        ·(rintro wq ⟨s0,s1⟩;go_simp<;>with_reducible rfl)
        try simp only[Act.put,List.setIfInBounds_toArray,List.set_cons_zero,List.set_cons_succ]
        refine tkH (v:=?_) 4 rfl (by kernel_rfl) (fun _ _ _ h=>h) hH (by rfl) ?_ ?_
        rotate_left
        ·(rintro wq ⟨s0,s1⟩;go_simp<;>with_reducible rfl)
        refine tkH (v:=?_) 5 rfl (by kernel_rfl) (fun _ _ _ h=>h) hH (by rfl) ?_ ?_
        rotate_left
        ·(rintro wq ⟨s0,s1⟩;go_simp<;>with_reducible rfl)
        refine tkH (v:=?_) 6 rfl (by kernel_rfl) (fun _ _ _ h=>h) hH (by rfl) ?_ ?_
        rotate_left
        ·(rintro wq ⟨s0,s1⟩;go_simp<;>with_reducible rfl)
        try simp only[Act.put,List.setIfInBounds_toArray,List.set_cons_zero,List.set_cons_succ]
        refine tkH (v:=?_) 7 rfl (by kernel_rfl) (fun _ _ _ h=>h) hH (by rfl) ?_ ?_
        rotate_left
        ·(rintro wq ⟨s0,s1⟩;go_simp<;>with_reducible rfl)
        refine tkH (v:=?_) 8 rfl (by kernel_rfl) (fun _ _ _ h=>h) hH (by rfl) ?_ ?_
        rotate_left
        ·(rintro wq ⟨s0,s1⟩;go_simp<;>with_reducible rfl)
        refine tkH (v:=?_) 9 rfl (by kernel_rfl) (fun _ _ _ h=>h) hH (by rfl) ?_ ?_
        rotate_left
        ·(rintro wq ⟨s0,s1⟩;go_simp<;>with_reducible rfl)
        try simp only[Act.put,List.setIfInBounds_toArray,List.set_cons_zero,List.set_cons_succ]
        refine tkH (v:=?_) 10 rfl (by kernel_rfl) (fun _ _ _ h=>h) hH (by rfl) ?_ ?_
        rotate_left
        ·(rintro wq ⟨s0,s1⟩;go_simp<;>with_reducible rfl)
        refine tkH (v:=?_) 11 rfl (by kernel_rfl) (fun _ _ _ h=>h) hH (by rfl) ?_ ?_
        rotate_left
        ·(rintro wq ⟨s0,s1⟩;go_simp<;>with_reducible rfl)
        refine tkH (v:=?_) 12 rfl (by kernel_rfl) (fun _ _ _ h=>h) hH (by rfl) ?_ ?_
        rotate_left
        ·(rintro wq ⟨s0,s1⟩;go_simp<;>with_reducible rfl)
        try simp only[Act.put,List.setIfInBounds_toArray,List.set_cons_zero,List.set_cons_succ]
        refine tkH (v:=?_) 13 rfl (by kernel_rfl) (fun _ _ _ h=>h) hH (by rfl) ?_ ?_
        rotate_left
        ·(rintro wq ⟨s0,s1⟩;go_simp<;>with_reducible rfl)
        refine tkH (v:=?_) 14 rfl (by kernel_rfl) (fun _ _ _ h=>h) hH (by rfl) ?_ ?_
        rotate_left
        ·(rintro wq ⟨s0,s1⟩;go_simp<;>with_reducible rfl)
        refine tkH (v:=?_) 15 rfl (by kernel_rfl) (fun _ _ _ h=>h) hH (by rfl) ?_ ?_
        rotate_left
        ·(rintro wq ⟨s0,s1⟩;go_simp<;>with_reducible rfl)
        try simp only[Act.put,List.setIfInBounds_toArray,List.set_cons_zero,List.set_cons_succ]
        refine tkH (v:=?_) 16 rfl (by kernel_rfl) (fun _ _ _ h=>h) hH (by rfl) ?_ ?_
        rotate_left
        ·(rintro wq ⟨s0,s1⟩;go_simp<;>with_reducible rfl)
        refine tkH (v:=?_) 17 rfl (by kernel_rfl) (fun _ _ _ h=>h) hH (by rfl) ?_ ?_
        rotate_left
        ·(rintro wq ⟨s0,s1⟩;go_simp<;>with_reducible rfl)
        refine tkH (v:=?_) 18 rfl (by kernel_rfl) (fun _ _ _ h=>h) hH (by rfl) ?_ ?_
        rotate_left
        ·(rintro wq ⟨s0,s1⟩;go_simp<;>with_reducible rfl)
        try simp only[Act.put,List.setIfInBounds_toArray,List.set_cons_zero,List.set_cons_succ]
        refine tkH (v:=?_) 19 rfl (by kernel_rfl) (fun _ _ _ h=>h) hH (by rfl) ?_ ?_
        rotate_left
        ·(rintro wq ⟨s0,s1⟩;go_simp<;>with_reducible rfl)
        refine tkH (v:=?_) 20 rfl (by kernel_rfl) (fun _ _ _ h=>h) hH (by rfl) ?_ ?_
        rotate_left
        ·(rintro wq ⟨s0,s1⟩;go_simp<;>with_reducible rfl)
        try simp only[Act.put,List.setIfInBounds_toArray,List.set_cons_zero,List.set_cons_succ]
        refine wpAnyH_ready (rs:=[1,21]) (by kernel_rfl) (by simp) ?_;refine AllReadyH.cons (QIo rfl) (fun Kq hKq=>?_) ?_
        focus
         go_simp
         refine hKq.out _ _ ?_ (fun hH=>?_)
         ·with_reducible assumption
         clear hKq Kq;try simp only[Act.put,List.setIfInBounds_toArray,List.set_cons_zero,List.set_cons_succ]
         try simp only[Act.put,List.setIfInBounds_toArray,List.set_cons_zero,List.set_cons_succ]
         refine wpAnyH_ready (rs:=[21]) (by kernel_rfl) (by simp) ?_;refine AllReadyH.cons (QIo rfl) (fun Kq hKq=>?_) ?_
         focus
          go_simp
          refine hKq.out _ _ ?_ (fun hH=>?_)
          ·with_reducible assumption
          clear hKq Kq;try simp only[Act.put,List.setIfInBounds_toArray,List.set_cons_zero,List.set_cons_succ]
          try simp only[Act.put,List.setIfInBounds_toArray,List.set_cons_zero,List.set_cons_succ]
         rotate_left
         exact AllReadyH.nil
        rotate_left
        refine AllReadyH.cons (QIo rfl) (fun Kq hKq=>?_) ?_
        focus
         go_simp
         refine hKq.out _ _ ?_ (fun hH=>?_)
         ·with_reducible assumption
         clear hKq Kq;try simp only[Act.put,List.setIfInBounds_toArray,List.set_cons_zero,List.set_cons_succ]
         try simp only[Act.put,List.setIfInBounds_toArray,List.set_cons_zero,List.set_cons_succ]
         refine wpAnyH_ready (rs:=[1]) (by kernel_rfl) (by simp) ?_;refine AllReadyH.cons (QIo rfl) (fun Kq hKq=>?_) ?_
         focus
          go_simp
          refine hKq.out _ _ ?_ (fun hH=>?_)
          ·with_reducible assumption
          clear hKq Kq;try simp only[Act.put,List.setIfInBounds_toArray,List.set_cons_zero,List.set_cons_succ]
          try simp only[Act.put,List.setIfInBounds_toArray,List.set_cons_zero,List.set_cons_succ]
         rotate_left
         exact AllReadyH.nil
        rotate_left
        exact AllReadyH.nil;all_goals
         try simp only[Act.put,List.setIfInBounds_toArray,List.set_cons_zero,List.set_cons_succ]
         refine wpAnyH_ready (rs:=[22]) (by kernel_rfl) (by simp) ?_;refine AllReadyH.cons (QIo rfl) (fun Kq hKq=>?_) ?_
         focus
          (refine step_append_lies _ rfl (.tmp 58) (.tmp 78) 38 rfl wx.heap.size 9 i1 (.string ⟨#[]⟩) 1 16 Tryz.underlying38 HY.out.1 HY.out.2.1 HY.out.2.2.1 HY.out.2.2.2 rfl (by decide) (.slice A1 j c1) j ((QH4 r.RR j).map MA) (by rfl) (Td HROW.out) ⟨wj.heap.size,0,none⟩ 1 1 [.string ((r.RR j).s.extract 0 (min ((r.RR j).s.size:Int) 40).toNat)] (by rfl) (by rfl) (World.news_of_block (cs:=#[.string ((r.RR j).s.extract 0 (min ((r.RR j).s.size:Int) 40).toNat)]) (TJ wj _)) QIm (by decide) (by unfold maxLen;omega) (by omega) (NJ HWX.out) (wj.heap.size+1) (by simp) ?_;intro g5 cap w5 hown5 hgrow5 hat5 hlt5;have B5:Below wx.heap.size wx w5:=BA.grown hgrow5 (NJ HWX.out) (fun q hq=>(AM HROW.out q hq).1);obtain⟨d5,e5⟩:=cell_grown hgrow5 HNO.out hbl z1 f1;have hg5:bb<w5.heap.size:=Nat.lt_of_lt_of_le hbl (Nat.le_trans (by simp) hgrow5.size);have SB5:=HSS.out _ B5;have SC5:=HSS.out _ (B5.setCell HS8.out (p:=⟨bb,1,none⟩) (.slice (some ⟨g5,0,none⟩) (j+1) cap));have ATM:=AA (HBX.out.more hgrow5 hown5))
          try go_simp
          refine hKq.out _ _ ?_ (fun hH=>?_)
          ·with_reducible assumption
          clear hKq Kq;try simp only[Act.put,List.setIfInBounds_toArray,List.set_cons_zero,List.set_cons_succ]
          refine tkH (v:=?_) 23 rfl (by kernel_rfl) (fun _ _ _ h=>h) hH (by rfl) ?_ ?_
          rotate_left
          ·(rintro wq ⟨s0,s1⟩;go_simp<;>with_reducible rfl)
          try simp only[Act.put,List.setIfInBounds_toArray,List.set_cons_zero,List.set_cons_succ]
          try simp only[Act.put,List.setIfInBounds_toArray,List.set_cons_zero,List.set_cons_succ]
          refine wpAnyH_ready (rs:=[24]) (by kernel_rfl) (by simp) ?_;refine AllReadyH.cons (QIo rfl) (fun Kq hKq=>?_) ?_
          focus
           go_simp
           refine hKq.out _ _ ?_ (fun hH=>?_)
           ·with_reducible assumption
           clear hKq Kq;try simp only[Act.put,List.setIfInBounds_toArray,List.set_cons_zero,List.set_cons_succ]
           refine wpAnyH_done (by kernel_rfl) ?_ _;go_wp2_with fail
           go_meet;case rel=>exact ATM.out
          exact AllReadyH.nil
         exact AllReadyH.nil
       case rest=>
        refine hJ _ _ ?_;have HCT:=AA hcut;clear hcut hJ S0 BA;go_wp2_with fail
        go_roundw;case rel=>exact⟨j+1,by omega,by omega,by go_num,HCT.out⟩
        case measure=>simp[intOf];omega
      ·rcases(show(j<r.nR/\¬j<6)\/¬j<r.nR by omega)with⟨hjlt,hj5⟩|hjlt;all_goals
        have HE:Hid (min r.nR 6=j):=AA (by omega);obtain⟨vR,vB,hbox⟩:=hat;obtain⟨A1,c1,rfl, -, -, -⟩:=hbox.regs.reads;rw[hjl]at hbox;obtain⟨AB,cB,rfl⟩:=hbox.body.slice;have z0:wj.cell? ⟨bb,0,none⟩=some (.string (r.name.extract 0 (min (r.name.size:Int) 40).toNat)):=by rw[Lib.cell_of_heap hbox.cs];rfl
        have z1:wj.cell? ⟨bb,1,none⟩=some (.slice A1 j c1):=by rw[Lib.cell_of_heap hbox.cs];rfl
        have z2:wj.cell? ⟨bb,2,none⟩=some (.slice AB (QHb r.RB (min r.nB 50)).length cB):=by rw[Lib.cell_of_heap hbox.cs];rfl
        have z3:wj.cell? ⟨bb,3,none⟩=some (.int .i64 r.pl):=by rw[Lib.cell_of_heap hbox.cs];rfl
        have hj7:=hbox.low.size;have HBX:=AA hbox;have HOJ:=AA (HO.out.on hbox.low);have hwj:w.heap.size<=wj.heap.size:=by omega
        have hK4:K.length<=3:=by have:=HKL.out;omega
        clear hbox
        go_wp2_with (at_builtin;refine wpList_append_own _ rfl (.tmp 81) (.tmp 83) 24 rfl w.heap.size 41 i0 (.agg #[.string ⟨#[]⟩,.slice none 0 0,.slice none 0 0,.int .i64 0]) 4 72 Tryz.underlying24 HZ.out.1 HZ.out.2.1 HZ.out.2.2.1 HZ.out.2.2.2 rfl (by decide) _ K.length (K.flatMap EQ) rfl (HOJ.out.on ((Below.refl wj.heap.size wj).alloc (Nat.le_refl _) _)).row ⟨wj.heap.size,0,none⟩ 1 1 [.string (r.name.extract 0 (min (r.name.size:Int) 40).toNat),.slice A1 j c1,.slice AB (QHb r.RB (min r.nB 50)).length cB,.int .i64 r.pl] (by rfl) (by rfl) (World.news_of_block (cs:=#[.string (r.name.extract 0 (min (r.name.size:Int) 40).toNat),.slice A1 j c1,.slice AB (QHb r.RB (min r.nB 50)).length cB,.int .i64 r.pl]) (heap_alloc_new wj _)) Xt (by unfold maxLen;omega) (by omega) (by simp;omega) ?_)
        intro v5 w5 hown5 hgrow5 _;have hal:Below wj.heap.size wj (wj.alloc (.cells #[.string (r.name.extract 0 (min (r.name.size:Int) 40).toNat),.slice A1 j c1,.slice AB (QHb r.RB (min r.nB 50)).length cB,.int .i64 r.pl] 41)):=(Below.refl _ _).alloc (Nat.le_refl _) _;have HB5:Hid (Below w.heap.size w w5):=AA (((HB.out.trans (HBX.out.low.mono hsz)).alloc hwj _).grown hgrow5 (by simp;omega) (fun q hq=>(AM HOJ.out.row q hq).1));have HA5:Hid (DY w5 w.heap.size v5 (K++[⟨QH5 r,.slice A1 j c1,.slice AB (QHb r.RB (min r.nB 50)).length cB⟩])):=AA (QD9 (x:=⟨QH5 r,.slice A1 j c1,.slice AB (QHb r.RB (min r.nB 50)).length cB⟩) (HOJ.out.on hal)
         ⟨by show C9 _ _ _ (QH4 r.RR (min r.nR 6));rw[HE.out];exact(HBX.out.regs.base hsz).on hal,(HBX.out.body.base hsz).keepT (AG.of (P:=fun _=>False) hal) Av.none⟩ hgrow5 (by rw[show EQ ⟨QH5 r,.slice A1 j c1,.slice AB (QHb r.RB (min r.nB 50)).length cB⟩=[.string (r.name.extract 0 (min (r.name.size:Int) 40).toNat),.slice A1 j c1,.slice AB (QHb r.RB (min r.nB 50)).length cB,.int .i64 r.pl]from by simp only[EQ,QH5];rw[QHg]];exact hown5))
        obtain⟨A5,n5,c5,rfl⟩:∃A n c,v5=.slice A n c:=by
         obtain⟨A,c,hv,_⟩:=AX hown5;exact⟨A,_,c,hv⟩
        clear hown5 hgrow5 hal z0 z1 z2 z3;go_wp2_with fail
        go_roundw;case rel=>exact⟨k+1,_,by omega,by omega,by go_num,HA5.out,by rw[List.map_append,HMP.out,HS.out];rfl,HB5.out⟩
        case measure=>simp[intOf];omega
   ·have HE:Hid (min n 4=k):=AA (by omega);clear hbel hown hmap;go_wp2_with fail
    go_ret;exact⟨_,rfl,⟨K,HO.out,by rw[HE.out];exact HMP.out⟩,HB.out⟩
  ·have HE:Hid (min n 4=k):=AA (by omega);clear hbel hown hmap;go_wp2_with fail
   go_ret;exact⟨_,rfl,⟨K,HO.out,by rw[HE.out];exact HMP.out⟩,HB.out⟩
theorem QIw (w:World):Below w.heap.size w (w.alloc (.cells #[.slice none 0 0,.slice none 0 0,.slice none 0 0,.slice none 0 0,.slice none 0 0,.slice none 0 0] 27)).drew:=AC ((Below.refl _ _).alloc (Nat.le_refl _) _) (AD _)
theorem QIx (w:World):(w.alloc (.cells #[.slice none 0 0,.slice none 0 0,.slice none 0 0,.slice none 0 0,.slice none 0 0,.slice none 0 0] 27)).drew.heap[w.heap.size]?=some (.cells #[.slice none 0 0,.slice none 0 0,.slice none 0 0,.slice none 0 0,.slice none 0 0,.slice none 0 0] 27):=heap_alloc_new w _
theorem QIy (w:World):w.heap.size<(w.alloc (.cells #[.slice none 0 0,.slice none 0 0,.slice none 0 0,.slice none 0 0,.slice none 0 0,.slice none 0 0] 27)).drew.heap.size:=(Array.getElem?_eq_some_iff.1 (QIx w)).1
theorem QIz {X w:World} {d:Nat} (h:Below X.heap.size X w) (hd:X.heap.size<=d) (u0 u1 u2 u3 u4 u5:Value):Below X.heap.size X ((((((w.setCell ⟨d,0,none⟩ u0).setCell ⟨d,1,none⟩ u1).setCell ⟨d,2,none⟩ u2).setCell ⟨d,3,none⟩ u3).setCell ⟨d,4,none⟩ u4).setCell ⟨d,5,none⟩ u5):=
 h.trans ((QCR w u0 u1 u2 u3 u4 u5).below (fun k hk e=>by omega) h.size)
theorem QI0 {X w:World} {d:Nat} {o:Obj} (_:w.heap[d]?=some o) (h:Below X.heap.size X w) (hd:X.heap.size<=d) (u0 u1 u2 u3 u4 u5:Value):Below X.heap.size X ((((((w.setCell ⟨d,0,none⟩ u0).setCell ⟨d,1,none⟩ u1).setCell ⟨d,2,none⟩ u2).setCell ⟨d,3,none⟩ u3).setCell ⟨d,4,none⟩ u4).setCell ⟨d,5,none⟩ u5):=QIz h hd u0 u1 u2 u3 u4 u5
def Two (b l:Nat) (w w':World):Prop:=w'.heap[b]?=w.heap[b]?/\w'.heap[l]?=w.heap[l]?
theorem QI1 {P:Nat->Prop} {b l:Nat} {w w':World} (hk:AG P w w') (hb:b<w.heap.size) (hl:l<w.heap.size) (h1:¬P b) (h2:¬P l):Two b l w w':=⟨hk.block b hb h1,hk.block l hl h2⟩
theorem Two.go5 {b l:Nat} {w w1 w2:World} (h:Two b l w w1) (k:Two b l w1 w2):Two b l w w2:=⟨k.1.trans h.1,k.2.trans h.2⟩
theorem Two.al5 {b l:Nat} {w w1:World} {o:Obj} (h:Two b l w w1) (hb:Below w.heap.size w w1) (h1:b<w.heap.size) (h2:l<w.heap.size):Two b l w (w1.alloc o):=
 h.go5 (QI1 (AG.of (P:=fun _=>False) ((Below.refl _ _).alloc (Nat.le_refl _) o)) (Nat.lt_of_lt_of_le h1 hb.size) (Nat.lt_of_lt_of_le h2 hb.size) id id)
theorem Two.gr5 {b l:Nat} {w w1 w5:World} {o:Obj} {v:Value} (h:Two b l w w1) (hb:Below w.heap.size w w1) (h1:b<w.heap.size) (h2:l<w.heap.size) (hg:(w1.alloc o).grownBy w5 v.ownBlock) (hn:∀q,v.ownBlock=some q->q≠b/\q≠l):Two b l w w5:=
 h.go5 (QI1 (ES ((Below.refl _ _).alloc (Nat.le_refl _) o) (AG.grown hg)) (Nat.lt_of_lt_of_le h1 hb.size) (Nat.lt_of_lt_of_le h2 hb.size) (fun e=>(hn b e).1 rfl) (fun e=>(hn l e).2 rfl))
theorem Two.st5 {b l d j:Nat} {w w5:World} {v:Value} (h:Two b l w w5) (hb:b≠d) (hl:l≠d) (h1:b<w5.heap.size) (h2:l<w5.heap.size):Two b l w (w5.setCell ⟨d,j,none⟩ v):=h.go5 (QI1 AG.set h1 h2 hb hl)
theorem QI2 {w:World} {N T m n:Nat} {v:Value} {xs:List Value} {o:Obj} (h:w.ownsRow N T m v n xs):(w.alloc o).ownsRow N T m v n xs:=AW (P:=fun _=>False) h (AG.of ((Below.refl _ _).alloc (Nat.le_refl _) o)) (fun _ _ h=>h)
theorem QI3 {w w5:World} {g j:Nat} {kv v:Value} {o:Obj} (hg:(w.alloc o).grownBy w5 kv.ownBlock) (hkv:∀q,kv.ownBlock=some q->q≠g) (hl:g<w.heap.size) (c:w.cell? ⟨g,j,none⟩=some v) (f:w.frozen? ⟨g,j,none⟩=false):w5.cell? ⟨g,j,none⟩=some v/\w5.frozen? ⟨g,j,none⟩=false:=by
 have hb:Below w.heap.size w (w.alloc o):=(Below.refl _ _).alloc (Nat.le_refl _) o;have e:=hg.block g (Nat.lt_of_lt_of_le hl hb.size) (fun e=>hkv g e.symm rfl);have e2:=hb.block g hl;exact⟨by rw[World.cell?_of_block (a:=⟨g,j,none⟩) (e.trans e2)];exact c,by rw[World.frozen?_of_block (a:=⟨g,j,none⟩) (e.trans e2)];exact f⟩
theorem QI4 {A:Option Addr} {n c:Nat}:∀u∈[Value.slice A n c],u.oneCell'=true:=by
 intro u hu;simp at hu;subst hu;rfl
set_option maxRecDepth 100000 in
set_option maxHeartbeats 64000000 in
theorem QI5 (p:QHz) (w:World) (hA:QH0 w p):Calls Tryz.prog 14 #[QH1 p] w (fun e w'=>∃u,e=.returned (DU u)/\CP w' w.heap.size u (QH9 p)/\Below w.heap.size w w'):=by
 obtain⟨aL,nL,cL,rL,aV,nV,cV,rV,aK,nK,cK,rK,aT,nT,cT,rT,aO,nO,cO,rO,aM,nM,cM,rM⟩:=p;have HP:=AA hA;have h0:=BC w (.cells #[.slice aL nL cL,.slice aV nV cV,.slice aK nK cK,.slice aT nT cT,.slice aO nO cO,.slice aM nM cM] 27) (.cells #[.slice none 0 0,.slice none 0 0,.slice none 0 0,.slice none 0 0,.slice none 0 0,.slice none 0 0] 27);have H0:=AA h0
 have N1:=AA (((Below.refl _ (w.alloc (.cells #[.slice aL nL cL,.slice aV nV cV,.slice aK nK cK,.slice aT nT cT,.slice aO nO cO,.slice aM nM cM] 27))).alloc (Nat.le_refl _) (.cells #[.slice none 0 0,.slice none 0 0,.slice none 0 0,.slice none 0 0,.slice none 0 0,.slice none 0 0] 27)).block w.heap.size (by simp) |>.trans (heap_alloc_new w (.cells #[.slice aL nL cL,.slice aV nV cV,.slice aK nK cK,.slice aT nT cT,.slice aO nO cO,.slice aM nM cM] 27)))
 have N2:=AA (heap_alloc2_new w (.cells #[.slice aL nL cL,.slice aV nV cV,.slice aK nK cK,.slice aT nT cT,.slice aO nO cO,.slice aM nM cM] 27) (.cells #[.slice none 0 0,.slice none 0 0,.slice none 0 0,.slice none 0 0,.slice none 0 0,.slice none 0 0] 27));clear hA h0;unfold QH1;go_enter Tryz.func14,Tryz.ntmps14;go_upto_region 1 with(fail)
 have hsz:((w.alloc (.cells #[.slice aL nL cL,.slice aV nV cV,.slice aK nK cK,.slice aT nT cT,.slice aO nO cO,.slice aM nM cM] 27)).alloc (.cells #[.slice none 0 0,.slice none 0 0,.slice none 0 0,.slice none 0 0,.slice none 0 0,.slice none 0 0] 27)).heap.size=w.heap.size+2:=by simp
 generalize((w.alloc (.cells #[.slice aL nL cL,.slice aV nV cV,.slice aK nK cK,.slice aT nT cT,.slice aO nO cO,.slice aM nM cM] 27)).alloc (.cells #[.slice none 0 0,.slice none 0 0,.slice none 0 0,.slice none 0 0,.slice none 0 0,.slice none 0 0] 27))=X at *;have HSZ:=AA hsz;clear hsz
 go_cut [3]from 6 to 18 (fun t wj=>∃dd:Nat,t=.pointer (some ⟨dd,0,none⟩)/\AtQ w ⟨aL,nL,cL,rL,aV,nV,cV,rV,aK,nK,cK,rK,aT,nT,cT,rT,aO,nO,cO,rO,aM,nM,cM,rM⟩ dd 0 0 wj)
 case first=>
  have hltb:w.heap.size<X.heap.size:=by have:=HSZ.out;omega
  have hltr:w.heap.size+1<X.heap.size:=by have:=HSZ.out;omega
  have HC2:=AA (fun W' (hb:Below X.heap.size X W')=>QIb aV nV cV rV W' (HP.out.on (AC H0.out hb)).v);have HC3:=AA (fun W' (hb:Below X.heap.size X W')=>QIb aK nK cK rK W' (HP.out.on (AC H0.out hb)).k);have HC4:=AA (fun W' (hb:Below X.heap.size X W')=>QIv aT nT cT rT W' (HP.out.on (AC H0.out hb)).t);have HC5:=AA (fun W' (hb:Below X.heap.size X W')=>QIv aO nO cO rO W' (HP.out.on (AC H0.out hb)).o);have HX:=AA (fun W' (hb:Below X.heap.size X W')=>QCQ ((hb.block w.heap.size hltb).trans N1.out));have S0:=HX.out X (Below.refl _ _);have S0d:=HX.out _ (AD X)
  have S0A:=HX.out _ (QIw X);go_wp2_with fail
  go_region_held3 (fun w'=>w'.cell? ⟨w.heap.size,0,none⟩=some (.slice aL nL cL)/\w'.cell? ⟨w.heap.size,1,none⟩=some (.slice aV nV cV)/\w'.cell? ⟨w.heap.size,2,none⟩=some (.slice aK nK cK)/\w'.cell? ⟨w.heap.size,3,none⟩=some (.slice aT nT cT)/\w'.cell? ⟨w.heap.size,4,none⟩=some (.slice aO nO cO)/\w'.cell? ⟨w.heap.size,5,none⟩=some (.slice aM nM cM)) (with_reducible assumption)
  (first
  |(go_at_call_of 33 (Value.slice aV nV cV);refine(HC2.out _ (by first|exact Below.refl _ _|exact AD _|exact QIw X)).mono ?_;rintro e2 w2 ⟨v2,rfl,o2,hb2⟩;obtain⟨D2,p2,q2,rfl⟩:=o2.form;have B2:Below X.heap.size X w2:=(by first|exact hb2|exact AC (AD _) hb2|exact AC (QIw X) hb2);have S2:=HX.out w2 B2;have S2A:=HX.out _ (B2.alloc B2.size (.cells #[.slice none 0 0,.slice none 0 0,.slice none 0 0,.slice none 0 0,.slice none 0 0,.slice none 0 0] 27));(first|have bx2:=(hb2.block X.heap.size (QIy X)).trans (QIx X)|skip))
  |(go_at_call_of 33 (Value.slice aK nK cK);refine(HC3.out _ (by first|exact B2|exact AC B2 (AD _)|exact B2.alloc B2.size _)).mono ?_;rintro e3 w3 ⟨v3,rfl,o3,hb3⟩;obtain⟨D3,p3,q3,rfl⟩:=o3.form;have B3:Below X.heap.size X w3:=(by first|exact AC B2 hb3|exact AC (AC B2 (AD _)) hb3|exact AC (AC B2 ((Below.refl _ _).alloc (Nat.le_refl _) _)) hb3);have S3:=HX.out w3 B3;have S3A:=HX.out _ (B3.alloc B3.size (.cells #[.slice none 0 0,.slice none 0 0,.slice none 0 0,.slice none 0 0,.slice none 0 0,.slice none 0 0] 27));(first|have bx3:=(hb3.block _ (Array.getElem?_eq_some_iff.1 bx2).1).trans bx2|have bx3:=(hb3.block w2.heap.size (by simp)).trans (heap_alloc_new w2 (.cells #[.slice none 0 0,.slice none 0 0,.slice none 0 0,.slice none 0 0,.slice none 0 0,.slice none 0 0] 27))|skip))
  |(go_at_call_of 34 (Value.slice aT nT cT);refine(HC4.out _ (by first|exact B3|exact AC B3 (AD _)|exact B3.alloc B3.size _)).mono ?_;rintro e4 w4 ⟨v4,rfl,o4,hb4⟩;obtain⟨D4,p4,q4,rfl⟩:=o4.form;have B4:Below X.heap.size X w4:=(by first|exact AC B3 hb4|exact AC (AC B3 (AD _)) hb4|exact AC (AC B3 ((Below.refl _ _).alloc (Nat.le_refl _) _)) hb4);have S4:=HX.out w4 B4;have S4A:=HX.out _ (B4.alloc B4.size (.cells #[.slice none 0 0,.slice none 0 0,.slice none 0 0,.slice none 0 0,.slice none 0 0,.slice none 0 0] 27));(first|have bx4:=(hb4.block _ (Array.getElem?_eq_some_iff.1 bx3).1).trans bx3|have bx4:=(hb4.block w3.heap.size (by simp)).trans (heap_alloc_new w3 (.cells #[.slice none 0 0,.slice none 0 0,.slice none 0 0,.slice none 0 0,.slice none 0 0,.slice none 0 0] 27))|skip))
  |(go_at_call_of 34 (Value.slice aO nO cO);refine(HC5.out _ (by first|exact B4|exact AC B4 (AD _)|exact B4.alloc B4.size _)).mono ?_;rintro e5 w5 ⟨v5,rfl,o5,hb5⟩;obtain⟨D5,p5,q5,rfl⟩:=o5.form;have B5:Below X.heap.size X w5:=(by first|exact AC B4 hb5|exact AC (AC B4 (AD _)) hb5|exact AC (AC B4 ((Below.refl _ _).alloc (Nat.le_refl _) _)) hb5);have S5:=HX.out w5 B5;have S5A:=HX.out _ (B5.alloc B5.size (.cells #[.slice none 0 0,.slice none 0 0,.slice none 0 0,.slice none 0 0,.slice none 0 0,.slice none 0 0] 27));(first|have bx5:=(hb5.block _ (Array.getElem?_eq_some_iff.1 bx4).1).trans bx4|have bx5:=(hb5.block w4.heap.size (by simp)).trans (heap_alloc_new w4 (.cells #[.slice none 0 0,.slice none 0 0,.slice none 0 0,.slice none 0 0,.slice none 0 0,.slice none 0 0] 27))|skip);have S5B:=HX.out _ (B5.alloc B5.size (.cells #[.slice none 0 0,.slice D2 p2 q2,.slice D3 p3 q3,.slice D4 p4 q4,.slice D5 p5 q5,.slice none 0 0] 27));(first|(have y:=QCQ bx5;obtain⟨y0,y1,y2,y3,y4,y5⟩:=y;have k0:=Lib.frozen_of_heap bx5 0;have k1:=Lib.frozen_of_heap bx5 1;have k2:=Lib.frozen_of_heap bx5 2;have k3:=Lib.frozen_of_heap bx5 3;have k4:=Lib.frozen_of_heap bx5 4;have k5:=Lib.frozen_of_heap bx5 5;have S6:=HX.out _ (QI0 bx5 B5 (by first|exact Nat.le_refl _|exact B2.size|exact B3.size|exact B4.size) (.slice none 0 0) (.slice D2 p2 q2) (.slice D3 p3 q3) (.slice D4 p4 q4) (.slice D5 p5 q5) (.slice none 0 0)))|skip)))
  all_goals
   have s0:=HSZ.out;have s2:=B2.size;have s3:=B3.size;have s4:=B4.size;have e23:Below w2.heap.size w2 w3:=by first|exact hb3|exact AC ((Below.refl _ _).alloc (Nat.le_refl _) _) hb3
   have e34:Below w3.heap.size w3 w4:=by first|exact hb4|exact AC ((Below.refl _ _).alloc (Nat.le_refl _) _) hb4
   have e45:Below w4.heap.size w4 w5:=by first|exact hb5|exact AC ((Below.refl _ _).alloc (Nat.le_refl _) _) hb5
   have O2:=o2.on (AC e23 (AC e34 e45));have O3:=o3.on (AC e34 e45);have O4:=o4.on e45;have NB:=(B5.block _ hltb).trans N1.out;have NR:=(B5.block _ hltr).trans N2.out;have HQ:Hid (AtQ _ _ _ _ _ _):=AA (by
    first
    |exact QIs (p:=⟨aL,nL,cL,rL,aV,nV,cV,rV,aK,nK,cK,rK,aT,nT,cT,rT,aO,nO,cO,rO,aM,nM,cM,rM⟩) (AC H0.out B5) NB NR (by omega) bx5 O2 O3 O4 o5 ⟨by first|omega|(simp;omega),by first|omega|(simp;omega),by first|omega|(simp;omega),by first|omega|(simp;omega)⟩
    |exact QIt (p:=⟨aL,nL,cL,rL,aV,nV,cV,rV,aK,nK,cK,rK,aT,nT,cT,rT,aO,nO,cO,rO,aM,nM,cM,rM⟩) (AC H0.out B5) NB NR O2 O3 O4 o5 ⟨by first|omega|(simp;omega),by first|omega|(simp;omega),by first|omega|(simp;omega),by first|omega|(simp;omega)⟩)
   clear s0 s2 s3 s4 e23 e34 e45 O2 O3 O4 NB NR;go_wp2_with fail
   go_meet;case rel=>exact⟨_,rfl,HQ.out⟩
 case rest=>
  obtain⟨dd,rfl,hat⟩:=hcut;have HAT:=AA hat;clear hat;obtain⟨i0,hi0,hz0,hz1,hz2⟩:=info_parts QDe;have HZ:=AA (show Tryz.prog.info? 23=some i0/\i0.zero=some (.slice none 0 0)/\i0.size=1/\i0.bytes=24 from⟨hi0,hz0,hz1,hz2⟩);obtain⟨i1,hi1,hy0,hy1,hy2⟩:=info_parts QDf;have HY:=AA (show Tryz.prog.info? 50=some i1/\i1.zero=some (.agg #[.slice none 0 0,.int .i64 0])/\i1.size=2/\i1.bytes=32 from⟨hi1,hy0,hy1,hy2⟩);clear hi0 hz0 hz1 hz2 hi1 hy0 hy1 hy2;go_upto_region 2 with(fail)
  go_cut [4]from 4 to 4 (fun t wx=>t=.int .i64 0/\wx=wc)
  case first=>
   go_wp2_with fail
   go_meet;case rel=>exact⟨rfl,rfl⟩
  case rest=>
   obtain⟨rfl,rfl⟩:=hcut
   rename_i KK hKK
   refine hKK _ _ ?_
   go_cut []from 19 to 40 (fun wy=>AtQ w ⟨aL,nL,cL,rL,aV,nV,cV,rV,aK,nK,cK,rK,aT,nT,cT,rT,aO,nO,cO,rO,aM,nM,cM,rM⟩ dd (min nL 6) 0 wy)
   case first=>
    go_wp2_with fail
    go_loopw [4] (fun x wj=>∃i:Nat,i<=nL/\i<=6/\x=.int .i64 i/\AtQ w ⟨aL,nL,cL,rL,aV,nV,cV,rV,aK,nK,cK,rK,aT,nT,cT,rT,aO,nO,cO,rO,aM,nM,cM,rM⟩ dd i 0 wj) (fun x _=>6-(intOf x).toNat)
    case atStart=>exact⟨0,Nat.zero_le _,Nat.zero_le _,rfl,HAT.out⟩
    case round=>
     obtain⟨i,hin,hi6,rfl,hat⟩:=hrel;obtain⟨wj,hwj0⟩:∃x:World,x=wr:=⟨_,rfl⟩
     subst hwj0;obtain⟨u,hbox⟩:=hat;have HBX:=AA hbox;have Q0:=(QCQ hbox.bx).1;by_cases hlt:i<nL
     ·by_cases hi5:i<6
      ·obtain⟨lb,lo,hAL,hbl,s0,hAC⟩:=(HP.out.on hbox.low).l i hlt;simp only at hAL s0 hAC;subst hAL;have HC:=AA (fun W' (hb:Below wj.heap.size wj W')=>QIb (rL i).A (rL i).n (rL i).c (rL i).R W' (hAC.on hb));obtain⟨K,hK,hm⟩:=hbox.own.lines;have HK:=AA hK;have HM:=AA hm;have HKL:Hid (K.length=i):=AA (by have:=congrArg List.length hm;rw[List.length_map]at this;rw[this];exact QIH _ _);obtain⟨A0,c0,hua, -, -, -⟩:=hK.reads;have q0:wj.cell? ⟨dd,0,none⟩=some (.slice A0 K.length c0):=by rw[<-hua,Lib.cell_of_heap hbox.cs];rfl
       have f0:wj.frozen? ⟨dd,0,none⟩=false:=Lib.frozen_of_heap hbox.cs 0;have hld:dd<wj.heap.size:=(Array.getElem?_eq_some_iff.1 hbox.cs).1;have hj0:(0:Int)<=(i:Int):=by omega
       have hj1:(i:Int)<(nL:Int):=by omega
       have HNO:Hid (∀q,(Value.slice A0 K.length c0).ownBlock=some q->q≠dd):=AA (fun q hq e=>by
        rw[<-hua]at hq;obtain⟨_,cs,h5⟩:=AM HK.out.row q hq;rw[e,HBX.out.cs]at h5;simp at h5)
       have HUA:=AA hua;have HROW:Hid (wj.ownsRow w.heap.size 23 1 (.slice A0 K.length c0) K.length (K.map (·.v))):=AA (by rw[<-hua];exact hK.row);have HSW:=AA hbox.low.size;have HDL:Hid (w.heap.size+1<dd):=AA hbox.dx;have hlw:w.heap.size<wj.heap.size:=(Array.getElem?_eq_some_iff.1 hbox.bx).1;have hlbw:lb<w.heap.size:=by obtain⟨b3,o3,h1,h2,_⟩:=HP.out.l i hlt;simp only[Option.some.injEq,Addr.mk.injEq]at h1;omega
       have HLB:Hid (w.heap.size<wj.heap.size/\lb<wj.heap.size):=AA ⟨hlw,by omega⟩;have HDB:Hid (w.heap.size≠dd/\lb≠dd):=AA (by have:=hbox.dx;omega);have HNB:Hid (∀q,(Value.slice A0 K.length c0).ownBlock=some q->q≠w.heap.size/\q≠lb):=AA (fun q hq=>by
        rw[<-hua]at hq;obtain⟨h1,cs,h5⟩:=AM HK.out.row q hq;refine⟨fun e=>?_,by omega⟩;rw[e,HBX.out.bx]at h5;simp at h5)
       have HSS:=AA (fun W' (h:Two w.heap.size lb wj W')=>(show W'.cell? ⟨w.heap.size,0,none⟩=some (.slice (some ⟨lb,lo,none⟩) nL cL)/\W'.cell? ⟨lb,lo+i,none⟩=some (.slice (rL i).A (rL i).n (rL i).c)from⟨(World.cell?_of_block (a:=⟨w.heap.size,0,none⟩) h.1).trans Q0,(World.cell?_of_block (a:=⟨lb,lo+i,none⟩) h.2).trans s0⟩));have S0:=HSS.out wj.drew ⟨rfl,rfl⟩;clear hbox hAC hK hm hua s0 hlw hlbw hbl;go_upto_region 5 with(fail)
       refine QIn (fun J2 hJ2=>?_)
       go_cut []from 19 to 40 (fun wy=>AtQ w ⟨some ⟨lb,lo,none⟩,nL,cL,rL,aV,nV,cV,rV,aK,nK,cK,rK,aT,nT,cT,rT,aO,nO,cO,rO,aM,nM,cM,rM⟩ dd (i+1) 0 wy)
       case first=>
        go_wp2_with fail
        refine wp_region_held_drew (S:=(fun w'=>w'.cell? ⟨w.heap.size,0,none⟩=some (.slice (some ⟨lb,lo,none⟩) nL cL)/\w'.cell? ⟨lb,lo+i,none⟩=some (.slice (rL i).A (rL i).n (rL i).c))) (by kernel_rfl) (S0) (fun hH=>?_);refine tkH (v:=?_) 0 rfl (by kernel_rfl) (fun _ _ _ h=>h) hH (by rfl) ?_ ?_
        rotate_left
        ·(rintro wq ⟨s0,s1⟩;go_simp<;>with_reducible rfl)
        refine tkH (v:=?_) 2 rfl (by kernel_rfl) (fun _ _ _ h=>h) hH (by rfl) ?_ ?_
        rotate_left
        ·(rintro wq ⟨s0,s1⟩;go_simp<;>with_reducible rfl)
        refine tkH (v:=?_) 3 rfl (by kernel_rfl) (fun _ _ _ h=>h) hH (by rfl) ?_ ?_
        rotate_left
        ·(rintro wq ⟨s0,s1⟩;go_simp<;>with_reducible rfl)
        try simp only[Act.put,List.setIfInBounds_toArray,List.set_cons_zero,List.set_cons_succ]
        refine tkH (v:=?_) 4 rfl (by kernel_rfl) (fun _ _ _ h=>h) hH (by rfl) ?_ ?_
        rotate_left
        ·(rintro wq ⟨s0,s1⟩;go_simp<;>with_reducible rfl)
        refine tkH (v:=?_) 5 rfl (by kernel_rfl) (fun _ _ _ h=>h) hH (by rfl) ?_ ?_
        rotate_left
        ·(rintro wq ⟨s0,s1⟩;go_simp<;>with_reducible rfl)
        refine tkH (v:=?_) 6 rfl (by kernel_rfl) (fun _ _ _ h=>h) hH (by rfl) ?_ ?_
        rotate_left
        ·(rintro wq ⟨s0,s1⟩;go_simp<;>with_reducible rfl)
        try simp only[Act.put,List.setIfInBounds_toArray,List.set_cons_zero,List.set_cons_succ]
        try simp only[Act.put,List.setIfInBounds_toArray,List.set_cons_zero,List.set_cons_succ]
        refine wpAnyH_ready (rs:=[1,7]) (by kernel_rfl) (by simp) ?_;refine AllReadyH.cons (QIo rfl) (fun Kq hKq=>?_) ?_
        focus
         go_simp
         refine hKq.out _ _ ?_ (fun hH=>?_)
         ·with_reducible assumption
         clear hKq Kq;try simp only[Act.put,List.setIfInBounds_toArray,List.set_cons_zero,List.set_cons_succ]
         try simp only[Act.put,List.setIfInBounds_toArray,List.set_cons_zero,List.set_cons_succ]
         refine wpAnyH_ready (rs:=[7]) (by kernel_rfl) (by simp) ?_;refine AllReadyH.cons (QIo rfl) (fun Kq hKq=>?_) ?_
         focus
          (go_simp;go_at_call_of 33 (Value.slice (rL i).A (rL i).n (rL i).c);refine(HC.out _ (AD _)).mono ?_;rintro e1 w1 ⟨v1,rfl,o1,hb1⟩;obtain⟨DC,pC,qC,rfl⟩:=o1.form;have HE1:Hid (Below wj.heap.size wj w1):=AA (AC (AD _) hb1);have hl1:dd<w1.heap.size:=Nat.lt_of_lt_of_le hld HE1.out.size;have q1:=(HE1.out.cell (p:=⟨dd,0,none⟩) hld).trans q0;have f1:=(HE1.out.frozen (p:=⟨dd,0,none⟩) hld).trans f0;have HROW1:=AA (AW (P:=fun _=>False) HROW.out (AG.of HE1.out) (fun _ _=>id));have T1:=QI1 (AG.of (P:=fun _=>False) HE1.out) HLB.out.1 HLB.out.2 id id;have S1:=HSS.out w1 T1;have S1A:=HSS.out (w1.alloc (.cells #[.slice DC pC qC] 23)) (T1.al5 HE1.out HLB.out.1 HLB.out.2))
          try go_simp
          refine hKq.out _ _ ?_ (fun hH=>?_)
          ·with_reducible assumption
          clear hKq Kq;try simp only[Act.put,List.setIfInBounds_toArray,List.set_cons_zero,List.set_cons_succ]
          try simp only[Act.put,List.setIfInBounds_toArray,List.set_cons_zero,List.set_cons_succ]
          refine wpAnyH_ready (rs:=[8]) (by kernel_rfl) (by simp) ?_;refine AllReadyH.cons (QIo rfl) (fun Kq hKq=>?_) ?_
          focus
           go_simp
           refine hKq.out _ _ ?_ (fun hH=>?_)
           ·with_reducible assumption
           clear hKq Kq;try simp only[Act.put,List.setIfInBounds_toArray,List.set_cons_zero,List.set_cons_succ]
           try simp only[Act.put,List.setIfInBounds_toArray,List.set_cons_zero,List.set_cons_succ]
          rotate_left
          exact AllReadyH.nil
         rotate_left
         exact AllReadyH.nil
        rotate_left
        refine AllReadyH.cons (QIo rfl) (fun Kq hKq=>?_) ?_
        focus
         (go_simp;go_at_call_of 33 (Value.slice (rL i).A (rL i).n (rL i).c);refine(HC.out _ (AD _)).mono ?_;rintro e1 w1 ⟨v1,rfl,o1,hb1⟩;obtain⟨DC,pC,qC,rfl⟩:=o1.form;have HE1:Hid (Below wj.heap.size wj w1):=AA (AC (AD _) hb1);have hl1:dd<w1.heap.size:=Nat.lt_of_lt_of_le hld HE1.out.size;have q1:=(HE1.out.cell (p:=⟨dd,0,none⟩) hld).trans q0;have f1:=(HE1.out.frozen (p:=⟨dd,0,none⟩) hld).trans f0;have HROW1:=AA (AW (P:=fun _=>False) HROW.out (AG.of HE1.out) (fun _ _=>id));have T1:=QI1 (AG.of (P:=fun _=>False) HE1.out) HLB.out.1 HLB.out.2 id id;have S1:=HSS.out w1 T1;have S1A:=HSS.out (w1.alloc (.cells #[.slice DC pC qC] 23)) (T1.al5 HE1.out HLB.out.1 HLB.out.2))
         try go_simp
         refine hKq.out _ _ ?_ (fun hH=>?_)
         ·with_reducible assumption
         clear hKq Kq;try simp only[Act.put,List.setIfInBounds_toArray,List.set_cons_zero,List.set_cons_succ]
         try simp only[Act.put,List.setIfInBounds_toArray,List.set_cons_zero,List.set_cons_succ]
         refine wpAnyH_ready (rs:=[1,8]) (by kernel_rfl) (by simp) ?_;refine AllReadyH.cons (QIo rfl) (fun Kq hKq=>?_) ?_
         focus
          go_simp
          refine hKq.out _ _ ?_ (fun hH=>?_)
          ·with_reducible assumption
          clear hKq Kq;try simp only[Act.put,List.setIfInBounds_toArray,List.set_cons_zero,List.set_cons_succ]
          try simp only[Act.put,List.setIfInBounds_toArray,List.set_cons_zero,List.set_cons_succ]
          refine wpAnyH_ready (rs:=[8]) (by kernel_rfl) (by simp) ?_;refine AllReadyH.cons (QIo rfl) (fun Kq hKq=>?_) ?_
          focus
           go_simp
           refine hKq.out _ _ ?_ (fun hH=>?_)
           ·with_reducible assumption
           clear hKq Kq;try simp only[Act.put,List.setIfInBounds_toArray,List.set_cons_zero,List.set_cons_succ]
           try simp only[Act.put,List.setIfInBounds_toArray,List.set_cons_zero,List.set_cons_succ]
          rotate_left
          exact AllReadyH.nil
         rotate_left
         refine AllReadyH.cons (QIo rfl) (fun Kq hKq=>?_) ?_
         focus
          go_simp
          refine hKq.out _ _ ?_ (fun hH=>?_)
          ·with_reducible assumption
          clear hKq Kq;try simp only[Act.put,List.setIfInBounds_toArray,List.set_cons_zero,List.set_cons_succ]
          try simp only[Act.put,List.setIfInBounds_toArray,List.set_cons_zero,List.set_cons_succ]
          refine wpAnyH_ready (rs:=[1]) (by kernel_rfl) (by simp) ?_;refine AllReadyH.cons (QIo rfl) (fun Kq hKq=>?_) ?_
          focus
           go_simp
           refine hKq.out _ _ ?_ (fun hH=>?_)
           ·with_reducible assumption
           clear hKq Kq;try simp only[Act.put,List.setIfInBounds_toArray,List.set_cons_zero,List.set_cons_succ]
           try simp only[Act.put,List.setIfInBounds_toArray,List.set_cons_zero,List.set_cons_succ]
          rotate_left
          exact AllReadyH.nil
         rotate_left
         exact AllReadyH.nil
        rotate_left
        rotate_left
        exact AllReadyH.nil;all_goals
         try simp only[Act.put,List.setIfInBounds_toArray,List.set_cons_zero,List.set_cons_succ]
         refine wpAnyH_ready (rs:=[9]) (by kernel_rfl) (by simp) ?_;refine AllReadyH.cons (QIo rfl) (fun Kq hKq=>?_) ?_
         focus
          (refine step_append_lies _ rfl (.tmp 31) (.tmp 38) 22 rfl w.heap.size 23 i0 (.slice none 0 0) 1 24 Tryz.underlying22 HZ.out.1 HZ.out.2.1 HZ.out.2.2.1 HZ.out.2.2.2 rfl (by decide) (.slice A0 K.length c0) K.length (K.map (·.v)) (by rfl) (QI2 HROW1.out) ⟨w1.heap.size,0,none⟩ 1 1 [.slice DC pC qC] (by rfl) (by rfl) (World.news_of_block (cs:=#[.slice DC pC qC]) (heap_alloc_new w1 _)) QI4 (by decide) (by have:=HKL.out;unfold maxLen;omega) (by have:=HKL.out;omega) (by have:=HSW.out;have:=HE1.out.size;simp;omega) (w1.heap.size+1) (by simp) ?_;intro g5 cap w5 hown5 hgrow5 hat5 hlt5;obtain⟨d5,e5⟩:=QI3 hgrow5 HNO.out hl1 q1 f1;have hg5:dd<w5.heap.size:=Nat.lt_of_lt_of_le hl1 (Nat.le_trans (by simp) hgrow5.size);have ATM:=AA (HBX.out.line HK.out HM.out HE1.out o1 (Nat.le_refl _) (by rw[HUA.out];exact hgrow5) hown5);have T5:=T1.gr5 HE1.out HLB.out.1 HLB.out.2 hgrow5 (HNB.out);have SB5:=HSS.out w5 T5;have SC5:=HSS.out (w5.setCell ⟨dd,0,none⟩ (.slice (some ⟨g5,0,none⟩) (K.length+1) cap)) (T5.st5 HDB.out.1 HDB.out.2 (Nat.lt_of_lt_of_le HLB.out.1 (Nat.le_trans HE1.out.size (Nat.le_trans (by simp) hgrow5.size))) (Nat.lt_of_lt_of_le HLB.out.2 (Nat.le_trans HE1.out.size (Nat.le_trans (by simp) hgrow5.size)))))
          try go_simp
          refine hKq.out _ _ ?_ (fun hH=>?_)
          ·with_reducible assumption
          clear hKq Kq;try simp only[Act.put,List.setIfInBounds_toArray,List.set_cons_zero,List.set_cons_succ]
          refine tkH (v:=?_) 10 rfl (by kernel_rfl) (fun _ _ _ h=>h) hH (by rfl) ?_ ?_
          rotate_left
          ·(rintro wq ⟨s0,s1⟩;go_simp<;>with_reducible rfl)
          try simp only[Act.put,List.setIfInBounds_toArray,List.set_cons_zero,List.set_cons_succ]
          refine wpAnyH_ready (rs:=[11]) (by kernel_rfl) (by simp) ?_;refine AllReadyH.cons (QIo rfl) (fun Kq hKq=>?_) ?_
          focus
           go_simp
           refine hKq.out _ _ ?_ (fun hH=>?_)
           ·with_reducible assumption
           clear hKq Kq;try simp only[Act.put,List.setIfInBounds_toArray,List.set_cons_zero,List.set_cons_succ]
           refine wpAnyH_done (by kernel_rfl) ?_ _;go_wp2_with fail
           go_meet;case rel=>exact ATM.out
          exact AllReadyH.nil
         exact AllReadyH.nil
       case rest=>
        refine hJ2 _ _ ?_;have HCT:=AA hcut;clear hcut hJ2 S0;go_wp2_with fail
        go_roundw;case rel=>exact⟨i+1,by omega,by omega,by go_num,HCT.out⟩
        case measure=>simp[intOf];omega
      ·have HE:Hid (min nL 6=i):=AA (by omega);clear hbox;go_wp2_with fail
       go_meet;case rel=>rw[HE.out];exact⟨_,HBX.out⟩
     ·have HE:Hid (min nL 6=i):=AA (by omega);clear hbox;go_wp2_with fail
      go_meet;case rel=>rw[HE.out];exact⟨_,HBX.out⟩
   case rest=>
    have HAT2:=AA hcut;clear hcut HAT
    rename_i KK2 hKK2 wz2
    refine hKK2 _ _ ?_;clear hKK2 hKK KK2;go_upto_region 6 with(fail)
    go_cut [5]from 5 to 5 (fun t wx=>t=.int .i64 0/\wx=wc)
    case first=>
     go_wp2_with fail
     go_meet;case rel=>exact⟨rfl,rfl⟩
    case rest=>
     obtain⟨rfl,rfl⟩:=hcut
     rename_i KK3 hKK3
     refine hKK3 _ _ ?_;clear hKK3 KK3
     go_cut []from 41 to 70 (fun wy=>AtQ w ⟨aL,nL,cL,rL,aV,nV,cV,rV,aK,nK,cK,rK,aT,nT,cT,rT,aO,nO,cO,rO,aM,nM,cM,rM⟩ dd (min nL 6) (min nM 6) wy)
     case first=>
      go_wp2_with fail
      go_loopw [5] (fun x wj=>∃j:Nat,j<=nM/\j<=6/\x=.int .i64 j/\AtQ w ⟨aL,nL,cL,rL,aV,nV,cV,rV,aK,nK,cK,rK,aT,nT,cT,rT,aO,nO,cO,rO,aM,nM,cM,rM⟩ dd (min nL 6) j wj) (fun x _=>6-(intOf x).toNat)
      case atStart=>exact⟨0,Nat.zero_le _,Nat.zero_le _,rfl,HAT2.out⟩
      case round=>
       obtain⟨j,hin,hi6,rfl,hat⟩:=hrel;obtain⟨wj,hwj0⟩:∃x:World,x=wr:=⟨_,rfl⟩
       subst hwj0;obtain⟨u,hbox⟩:=hat;have HBX:=AA hbox;have Q0:=(QCQ hbox.bx).2.2.2.2.2;by_cases hlt:j<nM
       ·by_cases hi5:j<6
        ·obtain⟨lb,lo,hAL,hbl,s0,s1,hAC⟩:=(HP.out.on hbox.low).m j hlt;simp only at hAL s0 s1 hAC;subst hAL;have HC:=AA (fun W' (hb:Below wj.heap.size wj W')=>QHX (rM j).AE (rM j).nE (rM j).cE (rM j).RE W' (hAC.on hb));obtain⟨K,hK,hm⟩:=hbox.own.claims;have HK:=AA hK;have HM:=AA hm;have HKL:Hid (K.length=j):=AA (by have:=congrArg List.length hm;rw[List.length_map]at this;rw[this];exact QIJ _ _);obtain⟨A0,c0,hua, -, -, -⟩:=hK.reads;have q0:wj.cell? ⟨dd,5,none⟩=some (.slice A0 K.length c0):=by rw[<-hua,Lib.cell_of_heap hbox.cs];rfl
         have f0:wj.frozen? ⟨dd,5,none⟩=false:=Lib.frozen_of_heap hbox.cs 5;have hld:dd<wj.heap.size:=(Array.getElem?_eq_some_iff.1 hbox.cs).1;have hj0:(0:Int)<=(j:Int):=by omega
         have hj1:(j:Int)<(nM:Int):=by omega
         have HNO:Hid (∀q,(Value.slice A0 K.length c0).ownBlock=some q->q≠dd):=AA (fun q hq e=>by
          rw[<-hua]at hq;obtain⟨_,cs,h5⟩:=AM HK.out.row q hq;rw[e,HBX.out.cs]at h5;simp at h5)
         have HUA:=AA hua;have HROW:Hid (wj.ownsRow w.heap.size 50 2 (.slice A0 K.length c0) K.length (K.flatMap GY)):=AA (by rw[<-hua];exact hK.row);have HSW:=AA hbox.low.size;have hlw:w.heap.size<wj.heap.size:=(Array.getElem?_eq_some_iff.1 hbox.bx).1;have hlbw:lb<w.heap.size:=by obtain⟨b3,o3,h1,h2,_⟩:=HP.out.m j hlt;simp only[Option.some.injEq,Addr.mk.injEq]at h1;omega
         have HLB:Hid (w.heap.size<wj.heap.size/\lb<wj.heap.size):=AA ⟨hlw,by omega⟩;have HDB:Hid (w.heap.size≠dd/\lb≠dd):=AA (by have:=hbox.dx;omega);have HNB:Hid (∀q,(Value.slice A0 K.length c0).ownBlock=some q->q≠w.heap.size/\q≠lb):=AA (fun q hq=>by
          rw[<-hua]at hq;obtain⟨h1,cs,h5⟩:=AM HK.out.row q hq;refine⟨fun e=>?_,by omega⟩;rw[e,HBX.out.bx]at h5;simp at h5)
         have HSS:=AA (fun W' (h:Two w.heap.size lb wj W')=>(show W'.cell? ⟨w.heap.size,5,none⟩=some (.slice (some ⟨lb,lo,none⟩) nM cM)/\W'.cell? ⟨lb,lo+j*2,none⟩=some (.slice (rM j).AE (rM j).nE (rM j).cE)/\W'.cell? ⟨lb,lo+j*2+1,none⟩=some (.int .i64 (rM j).pl)from⟨(World.cell?_of_block (a:=⟨w.heap.size,5,none⟩) h.1).trans Q0,(World.cell?_of_block (a:=⟨lb,lo+j*2,none⟩) h.2).trans s0,(World.cell?_of_block (a:=⟨lb,lo+j*2+1,none⟩) h.2).trans s1⟩));have S0:=HSS.out wj.drew ⟨rfl,rfl⟩;clear hbox hAC hK hm hua s0 s1 hlw hlbw hbl;go_upto_region 9 with(fail)
         refine QIn (fun J2 hJ2=>?_)
         go_cut []from 41 to 70 (fun wy=>AtQ w ⟨aL,nL,cL,rL,aV,nV,cV,rV,aK,nK,cK,rK,aT,nT,cT,rT,aO,nO,cO,rO,some ⟨lb,lo,none⟩,nM,cM,rM⟩ dd (min nL 6) (j+1) wy)
         case first=>
          go_wp2_with fail
          refine wp_region_held_drew (S:=(fun w'=>w'.cell? ⟨w.heap.size,5,none⟩=some (.slice (some ⟨lb,lo,none⟩) nM cM)/\w'.cell? ⟨lb,lo+j*2,none⟩=some (.slice (rM j).AE (rM j).nE (rM j).cE)/\w'.cell? ⟨lb,lo+j*2+1,none⟩=some (.int .i64 (rM j).pl))) (by kernel_rfl) (S0) (fun hH=>?_);refine tkH (v:=?_) 0 rfl (by kernel_rfl) (fun _ _ _ h=>h) hH (by rfl) ?_ ?_
          rotate_left
          ·(rintro wq ⟨s0,s1,s2⟩;go_simp<;>with_reducible rfl)
          refine tkH (v:=?_) 2 rfl (by kernel_rfl) (fun _ _ _ h=>h) hH (by rfl) ?_ ?_
          rotate_left
          ·(rintro wq ⟨s0,s1,s2⟩;go_simp<;>with_reducible rfl)
          refine tkH (v:=?_) 3 rfl (by kernel_rfl) (fun _ _ _ h=>h) hH (by rfl) ?_ ?_
          rotate_left
          ·(rintro wq ⟨s0,s1,s2⟩;go_simp<;>with_reducible rfl)
          try simp only[Act.put,List.setIfInBounds_toArray,List.set_cons_zero,List.set_cons_succ]
          refine tkH (v:=?_) 4 rfl (by kernel_rfl) (fun _ _ _ h=>h) hH (by rfl) ?_ ?_
          rotate_left
          ·(rintro wq ⟨s0,s1,s2⟩;go_simp<;>with_reducible rfl)
          refine tkH (v:=?_) 5 rfl (by kernel_rfl) (fun _ _ _ h=>h) hH (by rfl) ?_ ?_
          rotate_left
          ·(rintro wq ⟨s0,s1,s2⟩;go_simp<;>with_reducible rfl)
          refine tkH (v:=?_) 6 rfl (by kernel_rfl) (fun _ _ _ h=>h) hH (by rfl) ?_ ?_
          rotate_left
          ·(rintro wq ⟨s0,s1,s2⟩;go_simp<;>with_reducible rfl)
          try simp only[Act.put,List.setIfInBounds_toArray,List.set_cons_zero,List.set_cons_succ]
          refine tkH (v:=?_) 7 rfl (by kernel_rfl) (fun _ _ _ h=>h) hH (by rfl) ?_ ?_
          rotate_left
          ·(rintro wq ⟨s0,s1,s2⟩;go_simp<;>with_reducible rfl)
          refine tkH (v:=?_) 9 rfl (by kernel_rfl) (fun _ _ _ h=>h) hH (by rfl) ?_ ?_
          rotate_left
          ·(rintro wq ⟨s0,s1,s2⟩;go_simp<;>with_reducible rfl)
          refine tkH (v:=?_) 10 rfl (by kernel_rfl) (fun _ _ _ h=>h) hH (by rfl) ?_ ?_
          rotate_left
          ·(rintro wq ⟨s0,s1,s2⟩;go_simp<;>with_reducible rfl)
          try simp only[Act.put,List.setIfInBounds_toArray,List.set_cons_zero,List.set_cons_succ]
          refine tkH (v:=?_) 11 rfl (by kernel_rfl) (fun _ _ _ h=>h) hH (by rfl) ?_ ?_
          rotate_left
          ·(rintro wq ⟨s0,s1,s2⟩;go_simp<;>with_reducible rfl)
          refine tkH (v:=?_) 12 rfl (by kernel_rfl) (fun _ _ _ h=>h) hH (by rfl) ?_ ?_
          rotate_left
          ·(rintro wq ⟨s0,s1,s2⟩;go_simp<;>with_reducible rfl)
          refine tkH (v:=?_) 13 rfl (by kernel_rfl) (fun _ _ _ h=>h) hH (by rfl) ?_ ?_
          rotate_left
          ·(rintro wq ⟨s0,s1,s2⟩;go_simp<;>with_reducible rfl)
          try simp only[Act.put,List.setIfInBounds_toArray,List.set_cons_zero,List.set_cons_succ]
          refine tkH (v:=?_) 14 rfl (by kernel_rfl) (fun _ _ _ h=>h) hH (by rfl) ?_ ?_
          rotate_left
          ·(rintro wq ⟨s0,s1,s2⟩;go_simp<;>with_reducible rfl)
          try simp only[Act.put,List.setIfInBounds_toArray,List.set_cons_zero,List.set_cons_succ]
          refine wpAnyH_ready (rs:=[1,8]) (by kernel_rfl) (by simp) ?_;refine AllReadyH.cons (QIo rfl) (fun Kq hKq=>?_) ?_
          focus
           go_simp
           refine hKq.out _ _ ?_ (fun hH=>?_)
           ·with_reducible assumption
           clear hKq Kq;try simp only[Act.put,List.setIfInBounds_toArray,List.set_cons_zero,List.set_cons_succ]
           try simp only[Act.put,List.setIfInBounds_toArray,List.set_cons_zero,List.set_cons_succ]
           refine wpAnyH_ready (rs:=[8]) (by kernel_rfl) (by simp) ?_;refine AllReadyH.cons (QIo rfl) (fun Kq hKq=>?_) ?_
           focus
            (go_simp;go_at_call_of 35 (Value.slice (rM j).AE (rM j).nE (rM j).cE);refine(HC.out _ (AD _)).mono ?_;rintro e1 w1 ⟨v1,rfl,o1,hb1⟩;obtain⟨DC,pC,qC,rfl⟩:=IR o1;have HE1:Hid (Below wj.heap.size wj w1):=AA (AC (AD _) hb1);have hl1:dd<w1.heap.size:=Nat.lt_of_lt_of_le hld HE1.out.size;have q1:=(HE1.out.cell (p:=⟨dd,5,none⟩) hld).trans q0;have f1:=(HE1.out.frozen (p:=⟨dd,5,none⟩) hld).trans f0;have HROW1:=AA (AW (P:=fun _=>False) HROW.out (AG.of HE1.out) (fun _ _=>id));have T1:=QI1 (AG.of (P:=fun _=>False) HE1.out) HLB.out.1 HLB.out.2 id id;have S1:=HSS.out w1 T1;have S1A:=HSS.out (w1.alloc (.cells #[.slice DC pC qC,.int .i64 (rM j).pl] 50)) (T1.al5 HE1.out HLB.out.1 HLB.out.2))
            try go_simp
            refine hKq.out _ _ ?_ (fun hH=>?_)
            ·with_reducible assumption
            clear hKq Kq;try simp only[Act.put,List.setIfInBounds_toArray,List.set_cons_zero,List.set_cons_succ]
            refine tkH (v:=?_) 15 rfl (by kernel_rfl) (fun _ _ _ h=>h) hH (by rfl) ?_ ?_
            rotate_left
            ·(rintro wq ⟨s0,s1,s2⟩;go_simp<;>with_reducible rfl)
            try simp only[Act.put,List.setIfInBounds_toArray,List.set_cons_zero,List.set_cons_succ]
            refine wpAnyH_ready (rs:=[16]) (by kernel_rfl) (by simp) ?_;refine AllReadyH.cons (QIo rfl) (fun Kq hKq=>?_) ?_
            focus
             go_simp
             refine hKq.out _ _ ?_ (fun hH=>?_)
             ·with_reducible assumption
             clear hKq Kq;try simp only[Act.put,List.setIfInBounds_toArray,List.set_cons_zero,List.set_cons_succ]
             try simp only[Act.put,List.setIfInBounds_toArray,List.set_cons_zero,List.set_cons_succ]
            rotate_left
            exact AllReadyH.nil
           rotate_left
           exact AllReadyH.nil
          rotate_left
          refine AllReadyH.cons (QIo rfl) (fun Kq hKq=>?_) ?_
          focus
           (go_simp;go_at_call_of 35 (Value.slice (rM j).AE (rM j).nE (rM j).cE);refine(HC.out _ (AD _)).mono ?_;rintro e1 w1 ⟨v1,rfl,o1,hb1⟩;obtain⟨DC,pC,qC,rfl⟩:=IR o1;have HE1:Hid (Below wj.heap.size wj w1):=AA (AC (AD _) hb1);have hl1:dd<w1.heap.size:=Nat.lt_of_lt_of_le hld HE1.out.size;have q1:=(HE1.out.cell (p:=⟨dd,5,none⟩) hld).trans q0;have f1:=(HE1.out.frozen (p:=⟨dd,5,none⟩) hld).trans f0;have HROW1:=AA (AW (P:=fun _=>False) HROW.out (AG.of HE1.out) (fun _ _=>id));have T1:=QI1 (AG.of (P:=fun _=>False) HE1.out) HLB.out.1 HLB.out.2 id id;have S1:=HSS.out w1 T1;have S1A:=HSS.out (w1.alloc (.cells #[.slice DC pC qC,.int .i64 (rM j).pl] 50)) (T1.al5 HE1.out HLB.out.1 HLB.out.2))
           try go_simp
           refine hKq.out _ _ ?_ (fun hH=>?_)
           ·with_reducible assumption
           clear hKq Kq;try simp only[Act.put,List.setIfInBounds_toArray,List.set_cons_zero,List.set_cons_succ]
           refine tkH (v:=?_) 15 rfl (by kernel_rfl) (fun _ _ _ h=>h) hH (by rfl) ?_ ?_
           rotate_left
           ·(rintro wq ⟨s0,s1,s2⟩;go_simp<;>with_reducible rfl)
           try simp only[Act.put,List.setIfInBounds_toArray,List.set_cons_zero,List.set_cons_succ]
           try simp only[Act.put,List.setIfInBounds_toArray,List.set_cons_zero,List.set_cons_succ]
           refine wpAnyH_ready (rs:=[1,16]) (by kernel_rfl) (by simp) ?_;refine AllReadyH.cons (QIo rfl) (fun Kq hKq=>?_) ?_
           focus
            go_simp
            refine hKq.out _ _ ?_ (fun hH=>?_)
            ·with_reducible assumption
            clear hKq Kq;try simp only[Act.put,List.setIfInBounds_toArray,List.set_cons_zero,List.set_cons_succ]
            try simp only[Act.put,List.setIfInBounds_toArray,List.set_cons_zero,List.set_cons_succ]
            refine wpAnyH_ready (rs:=[16]) (by kernel_rfl) (by simp) ?_;refine AllReadyH.cons (QIo rfl) (fun Kq hKq=>?_) ?_
            focus
             go_simp
             refine hKq.out _ _ ?_ (fun hH=>?_)
             ·with_reducible assumption
             clear hKq Kq;try simp only[Act.put,List.setIfInBounds_toArray,List.set_cons_zero,List.set_cons_succ]
             try simp only[Act.put,List.setIfInBounds_toArray,List.set_cons_zero,List.set_cons_succ]
            rotate_left
            exact AllReadyH.nil
           rotate_left
           refine AllReadyH.cons (QIo rfl) (fun Kq hKq=>?_) ?_
           focus
            go_simp
            refine hKq.out _ _ ?_ (fun hH=>?_)
            ·with_reducible assumption
            clear hKq Kq;try simp only[Act.put,List.setIfInBounds_toArray,List.set_cons_zero,List.set_cons_succ]
            try simp only[Act.put,List.setIfInBounds_toArray,List.set_cons_zero,List.set_cons_succ]
            refine wpAnyH_ready (rs:=[1]) (by kernel_rfl) (by simp) ?_;refine AllReadyH.cons (QIo rfl) (fun Kq hKq=>?_) ?_
            focus
             go_simp
             refine hKq.out _ _ ?_ (fun hH=>?_)
             ·with_reducible assumption
             clear hKq Kq;try simp only[Act.put,List.setIfInBounds_toArray,List.set_cons_zero,List.set_cons_succ]
             try simp only[Act.put,List.setIfInBounds_toArray,List.set_cons_zero,List.set_cons_succ]
            rotate_left
            exact AllReadyH.nil
           rotate_left
           exact AllReadyH.nil
          rotate_left
          rotate_left
          exact AllReadyH.nil;all_goals
           try simp only[Act.put,List.setIfInBounds_toArray,List.set_cons_zero,List.set_cons_succ]
           refine wpAnyH_ready (rs:=[17]) (by kernel_rfl) (by simp) ?_;refine AllReadyH.cons (QIo rfl) (fun Kq hKq=>?_) ?_
           focus
            (refine step_append_lies _ rfl (.tmp 53) (.tmp 68) 25 rfl w.heap.size 50 i1 (.agg #[.slice none 0 0,.int .i64 0]) 2 32 Tryz.underlying25 HY.out.1 HY.out.2.1 HY.out.2.2.1 HY.out.2.2.2 rfl (by decide) (.slice A0 K.length c0) K.length (K.flatMap GY) (by rfl) (QI2 HROW1.out) ⟨w1.heap.size,0,none⟩ 1 1 [.slice DC pC qC,.int .i64 (rM j).pl] (by rfl) (by rfl) (World.news_of_block (cs:=#[.slice DC pC qC,.int .i64 (rM j).pl]) (heap_alloc_new w1 _)) QDg (by decide) (by have:=HKL.out;unfold maxLen;omega) (by have:=HKL.out;omega) (by have:=HSW.out;have:=HE1.out.size;simp;omega) (w1.heap.size+1) (by simp) ?_;intro g5 cap w5 hown5 hgrow5 hat5 hlt5;obtain⟨d5,e5⟩:=QI3 hgrow5 HNO.out hl1 q1 f1;have hg5:dd<w5.heap.size:=Nat.lt_of_lt_of_le hl1 (Nat.le_trans (by simp) hgrow5.size);have ATM:=AA (HBX.out.claim HK.out HM.out HE1.out (o1.readE (Nat.le_refl _)) (Nat.le_refl _) (by rw[HUA.out];exact hgrow5) hown5);have T5:=T1.gr5 HE1.out HLB.out.1 HLB.out.2 hgrow5 (HNB.out);have SB5:=HSS.out w5 T5;have SC5:=HSS.out (w5.setCell ⟨dd,5,none⟩ (.slice (some ⟨g5,0,none⟩) (K.length+1) cap)) (T5.st5 HDB.out.1 HDB.out.2 (Nat.lt_of_lt_of_le HLB.out.1 (Nat.le_trans HE1.out.size (Nat.le_trans (by simp) hgrow5.size))) (Nat.lt_of_lt_of_le HLB.out.2 (Nat.le_trans HE1.out.size (Nat.le_trans (by simp) hgrow5.size)))))
            try go_simp
            refine hKq.out _ _ ?_ (fun hH=>?_)
            ·with_reducible assumption
            clear hKq Kq;try simp only[Act.put,List.setIfInBounds_toArray,List.set_cons_zero,List.set_cons_succ]
            refine tkH (v:=?_) 18 rfl (by kernel_rfl) (fun _ _ _ h=>h) hH (by rfl) ?_ ?_
            rotate_left
            ·(rintro wq ⟨s0,s1,s2⟩;go_simp<;>with_reducible rfl)
            try simp only[Act.put,List.setIfInBounds_toArray,List.set_cons_zero,List.set_cons_succ]
            refine wpAnyH_ready (rs:=[19]) (by kernel_rfl) (by simp) ?_;refine AllReadyH.cons (QIo rfl) (fun Kq hKq=>?_) ?_
            focus
             go_simp
             refine hKq.out _ _ ?_ (fun hH=>?_)
             ·with_reducible assumption
             clear hKq Kq;try simp only[Act.put,List.setIfInBounds_toArray,List.set_cons_zero,List.set_cons_succ]
             refine wpAnyH_done (by kernel_rfl) ?_ _;go_wp2_with fail
             go_meet;case rel=>exact ATM.out
            exact AllReadyH.nil
           exact AllReadyH.nil
         case rest=>
          refine hJ2 _ _ ?_;have HCT:=AA hcut;clear hcut hJ2 S0;go_wp2_with fail
          go_roundw;case rel=>exact⟨j+1,by omega,by omega,by go_num,HCT.out⟩
          case measure=>simp[intOf];omega
        ·have HE:Hid (min nM 6=j):=AA (by omega);clear hbox;go_wp2_with fail
         go_meet;case rel=>rw[HE.out];exact⟨_,HBX.out⟩
       ·have HE:Hid (min nM 6=j):=AA (by omega);clear hbox;go_wp2_with fail
        go_meet;case rel=>rw[HE.out];exact⟨_,HBX.out⟩
     case rest=>
      obtain⟨⟨ua,ub,uc,ud,ue,uf⟩,hbox⟩:=hcut;obtain⟨A1,n1,m1,A2,n2,m2,A3,n3,m3,A4,n4,m4,A5,n5,m5,A6,n6,m6,hu⟩:=hbox.own.forms;simp only[Pv.mk.injEq]at hu;obtain⟨rfl,rfl,rfl,rfl,rfl,rfl⟩:=hu;obtain⟨y0,y1,y2,y3,y4,y5⟩:=QCQ hbox.cs;obtain⟨r0,r1,r2,r3,r4,r5⟩:=QCQ hbox.rx;have k0:=Lib.frozen_of_heap hbox.rx 0;have k1:=Lib.frozen_of_heap hbox.rx 1;have k2:=Lib.frozen_of_heap hbox.rx 2;have k3:=Lib.frozen_of_heap hbox.rx 3;have k4:=Lib.frozen_of_heap hbox.rx 4;have k5:=Lib.frozen_of_heap hbox.rx 5;have hf:=QEF hbox.rx (.slice A1 n1 m1) (.slice A2 n2 m2) (.slice A3 n3 m3) (.slice A4 n4 m4) (.slice A5 n5 m5) (.slice A6 n6 m6)
      have hk:=QCR (d:=w.heap.size+1) wc (.slice A1 n1 m1) (.slice A2 n2 m2) (.slice A3 n3 m3) (.slice A4 n4 m4) (.slice A5 n5 m5) (.slice A6 n6 m6);have HFO:=AA (hbox.own.keepT hk (QIr hbox.rx (by decide)));have HFB:=AA (hbox.low.trans (hk.below (fun q hq e=>by omega) hbox.low.size));have HF:=AA hf;clear hf hk hbox;go_wp2_with fail
      generalize((((((wc.setCell ⟨w.heap.size+1,0,none⟩ (.slice A1 n1 m1)).setCell ⟨w.heap.size+1,1,none⟩ (.slice A2 n2 m2)).setCell ⟨w.heap.size+1,2,none⟩ (.slice A3 n3 m3)).setCell ⟨w.heap.size+1,3,none⟩ (.slice A4 n4 m4)).setCell ⟨w.heap.size+1,4,none⟩ (.slice A5 n5 m5)).setCell ⟨w.heap.size+1,5,none⟩ (.slice A6 n6 m6))=V at *;obtain⟨v0,v1,v2,v3,v4,v5⟩:=QCQ HF.out;refine bodyPost_ret (v:=.agg #[.slice A1 n1 m1,.slice A2 n2 m2,.slice A3 n3 m3,.slice A4 n4 m4,.slice A5 n5 m5,.slice A6 n6 m6]) (by simp[results,Tryz.results14,go_sem,v0,v1,v2,v3,v4,v5]) rfl ?_
      exact⟨⟨.slice A1 n1 m1,.slice A2 n2 m2,.slice A3 n3 m3,.slice A4 n4 m4,.slice A5 n5 m5,.slice A6 n6 m6⟩,rfl,HFO.out,HFB.out⟩
end Go.Proofs.YthfkpalfopdmhaaGreatDoor
