/- Texts of the walk, packed. -/
import Derived.Test.YthfkpalfopdmhaaGreatDoorW25
import Derived.Test.YthfkpalfopdmhaaGreatDoorW26
import Derived.Test.YthfkpalfopdmhaaGreatDoorW15
import Derived.Test.YthfkpalfopdmhaaGreatDoorW16
import Derived.Laws.BitsAllLaws
import Derived.Laws.BitsLemmas
import Derived.Test.YthfkpalfopdmhaaGreatDoorW17
import Derived.Test.YthfkpalfopdmhaaGreatDoorW00
namespace Go.Proofs.YthfkpalfopdmhaaGreatDoor
open Go.RowKit
structure Nb where
 op:Int
 n:Int
 name:ByteArray
 pl:Int
def MN (w:World) (A:Option Addr) (n:Nat) (R:Nat->Nb):Prop:=
 ∀i,i<n->∃b off,A=some ⟨b,off,none⟩/\b<w.heap.size/\w.cell? ⟨b,off+i*4,none⟩=some (.int .i64 (R i).op)/\w.cell? ⟨b,off+i*4+1,none⟩=some (.int .i64 (R i).n)/\
  w.cell? ⟨b,off+i*4+2,none⟩=some (.string (R i).name)/\w.cell? ⟨b,off+i*4+3,none⟩=some (.int .i64 (R i).pl)
theorem MN.on {w w':World} {A:Option Addr} {n:Nat} {R:Nat->Nb} (h:MN w A n R) (hb:Below w.heap.size w w'):MN w' A n R:=by
 intro i hi;obtain⟨b,off,hA,hbl,h0,h1,h2,h3⟩:=h i hi;have e:∀o,w'.cell? ⟨b,o,none⟩=w.cell? ⟨b,o,none⟩:=fun o=>hb.cell (p:=⟨b,o,none⟩) hbl
 exact⟨b,off,hA,Nat.lt_of_lt_of_le hbl hb.size,(e _).trans h0,(e _).trans h1,(e _).trans h2,(e _).trans h3⟩
def KD (r:Nb):Nod:=⟨r.op,r.n,(r.name.extract 0 (min (r.name.size:Int) 40).toNat).data.toList,r.pl⟩
def Gn (R:Nat->Nb) (k:Nat):List Nod:=(List.range k).map fun i=>KD (R i)
theorem Z8 (R:Nat->Nb) (k:Nat):Gn R (k+1)=Gn R k++[KD (R k)]:=by simp[Gn,List.range_succ]
theorem Je (R:Nat->Nb) (k:Nat):(Gn R k).length=k:=by simp[Gn]
theorem MO (R:Nat->Nb) (k:Nat):Ej (Gn R k):=by
 intro t ht;simp only[Gn,List.mem_map]at ht;obtain⟨i,_,rfl⟩:=ht;show((R i).name.extract 0 (min ((R i).name.size:Int) 40).toNat).data.toList.length<=100000;rw[E7,ByteArray.size_extract];omega
theorem Z9 (w:World):Bn (w.alloc (.cells #[] 46)) w.heap.size (.slice (some ⟨w.heap.size,0,none⟩) 0 0) []:=
 ⟨rfl,.inr ⟨w.heap.size,0,#[],rfl,Nat.le_refl _,heap_alloc_new w _,by decide,by decide,rfl,rfl⟩⟩
theorem QAA {W2:World} (a:Nod):∀j u,(BN a)[j]?=some u->(W2.alloc (.cells #[.int .i64 a.op,.int .i64 a.n,.string ⟨a.name.toArray⟩,.int .i64 a.pl] 46)).cell? ((⟨W2.heap.size,0,none⟩:Addr).add j)=some u:=by
 intro j u hu
 match j,hu with
 |0,hu=>simp[BN]at hu;subst hu;simp[Addr.add]
 |1,hu=>simp[BN]at hu;subst hu;simp[Addr.add]
 |2,hu=>simp[BN]at hu;subst hu;simp[Addr.add]
 |3,hu=>simp[BN]at hu;subst hu;simp[Addr.add]
 |n+4,hu=>simp[BN]at hu
theorem XP {W2:World} (r:Nb) (t:ByteArray) (ht:t=r.name.extract 0 (min (r.name.size:Int) 40).toNat) (b:Nat) (hb:b=W2.heap.size):
  ∀j u,(BN (KD r))[j]?=some u->(W2.alloc (.cells #[.int .i64 r.op,.int .i64 r.n,.string t,.int .i64 r.pl] 46)).cell? ((⟨b,0,none⟩:Addr).add j)=some u:=by
 subst hb;have h:=QAA (W2:=W2) (KD r);have e1:(⟨(KD r).name.toArray⟩:ByteArray)=t:=by rw[ht];apply LU;simp[KD]
 rw[e1]at h;exact h
def QF4 (l:List Nod) (w:World) (e:Ending) (w':World):Prop:=∃v,e=.returned v/\Bn w' w.heap.size v l/\Below w.heap.size w w'
set_option maxRecDepth 100000 in
set_option maxHeartbeats 8000000 in
theorem T9 (A:Option Addr) (n c:Nat) (R:Nat->Nb) (w:World) (hA:MN w A n R):Calls Tryz.prog 35 #[.slice A n c] w (QF4 (Gn R (min n 60)) w):=by
 obtain⟨i0,hi,hz0,hz1,hz2⟩:=info_parts info30;have HZ:=AA (show Tryz.prog.info? 46=some i0/\i0.zero=some (.agg #[.int .i64 0,.int .i64 0,.string ⟨#[]⟩,.int .i64 0])/\i0.size=4/\i0.bytes=40 from⟨hi,hz0,hz1,hz2⟩);have HA:=AA hA;clear hi hz0 hz1 hz2 hA;go_enter Tryz.func35,Tryz.ntmps35;go_wp2_with fail
 go_loopw [3,4] (fun v x wr=>∃k:Nat,k<=n/\k<=60/\x=.int .i64 k/\Bn wr w.heap.size v (Gn R k)/\Below w.heap.size w wr) (fun _ x _=>60-(intOf x).toNat)
 case atStart=>exact⟨0,Nat.zero_le _,Nat.zero_le _,rfl,Z9 w,(Below.refl _ _).alloc (Nat.le_refl _) _⟩
 case round=>
  obtain⟨k,hkn,hk60,rfl,hown,hbel⟩:=hrel;have HO:=AA hown;have HB:=AA hbel;have hsz:=hbel.size;clear hown;by_cases hlt:k<n
  ·by_cases hl6:k<60
   ·obtain⟨b,off,hAA,hbl,y0,y1,y2,y3⟩:=HA.out k hlt;subst hAA;have x0:=(hbel.cell (p:=⟨b,off+k*4,none⟩) hbl).trans y0;have x1:=(hbel.cell (p:=⟨b,off+k*4+1,none⟩) hbl).trans y1;have x2:=(hbel.cell (p:=⟨b,off+k*4+2,none⟩) hbl).trans y2;have x3:=(hbel.cell (p:=⟨b,off+k*4+3,none⟩) hbl).trans y3;have HS:=AA (Z8 R k);have hrl:=Je R k;clear y0 y1 y2 y3 hbel;generalize R k=r at *;generalize hG:Gn R k=G at *;have hG60:G.length<=59:=by omega
    clear hrl hG;go_wp2_with (at_builtin;refine wpList_append_own _ rfl (.tmp 29) (.tmp 31) 42 rfl w.heap.size 46 i0 (.agg #[.int .i64 0,.int .i64 0,.string ⟨#[]⟩,.int .i64 0]) 4 40 Tryz.underlying42 HZ.out.1 HZ.out.2.1 HZ.out.2.2.1 HZ.out.2.2.2 rfl (by decide) _ G.length (DR G) rfl ?dO ⟨wr.heap.size+1,0,none⟩ 1 1 (BN (KD r)) rfl rfl ?d1 ?d2 ?d3 ?d4 ?d5 ?_)
    case dO=>exact HO.out.on (((Below.refl _ _).alloc (Nat.le_refl _) _).alloc (by simp) _)
    case d1=>exact XP r _ rfl _ (by simp)
    case d2=>intro u hu;exact TU [KD r] u (by rw[J0];exact hu)
    case d3=>unfold maxLen;omega
    case d4=>omega
    case d5=>simp;omega
    intro v5 w5 hown' hgrow _;have HK5:Hid (Bn w5 w.heap.size v5 (G++[KD r])):=AA (by unfold Bn;rw[MA,J0,List.length_append];exact hown');have HL5:Hid (Below w.heap.size w w5):=AA (((HB.out.alloc hsz _).alloc (by simp;omega) _).grown hgrow (by simp;omega) (fun k hk=>(Ba HO.out k hk).1));clear hown' hgrow x0 x1 x2 x3;go_wp2_with fail
    go_roundw;case rel=>exact⟨k+1,by omega,by omega,by go_num,by rw[HS.out];exact HK5.out,HL5.out⟩
    case measure=>simp[intOf];omega
   ·have HE:Hid (min n 60=k):=AA (by omega);clear hbel;go_wp2_with fail
    go_ret;exact⟨_,rfl,by rw[HE.out];exact HO.out,HB.out⟩
  ·have HE:Hid (min n 60=k):=AA (by omega);clear hbel;go_wp2_with fail
   go_ret;exact⟨_,rfl,by rw[HE.out];exact HO.out,HB.out⟩
structure RawS where
 kind:Int
 reg:ByteArray
 name:ByteArray
 AE:Option Addr
 nE:Nat
 cE:Nat
 RE:Nat->Nb
 AF:Option Addr
 nF:Nat
 cF:Nat
 RF:Nat->Nb
 n:Int
 body:Int
 els:Int
 pl:Int
def UA (w:World) (A:Option Addr) (n:Nat) (R:Nat->RawS):Prop:=
 ∀i,i<n->∃b off,A=some ⟨b,off,none⟩/\b<w.heap.size/\w.cell? ⟨b,off+i*9,none⟩=some (.int .i64 (R i).kind)/\w.cell? ⟨b,off+i*9+1,none⟩=some (.string (R i).reg)/\w.cell? ⟨b,off+i*9+2,none⟩=some (.string (R i).name)/\
  w.cell? ⟨b,off+i*9+3,none⟩=some (.slice (R i).AE (R i).nE (R i).cE)/\w.cell? ⟨b,off+i*9+4,none⟩=some (.slice (R i).AF (R i).nF (R i).cF)/\w.cell? ⟨b,off+i*9+5,none⟩=some (.int .i64 (R i).n)/\
  w.cell? ⟨b,off+i*9+6,none⟩=some (.int .i64 (R i).body)/\w.cell? ⟨b,off+i*9+7,none⟩=some (.int .i64 (R i).els)/\w.cell? ⟨b,off+i*9+8,none⟩=some (.int .i64 (R i).pl)/\MN w (R i).AE (R i).nE (R i).RE/\MN w (R i).AF (R i).nF (R i).RF
theorem UA.on {w w':World} {A:Option Addr} {n:Nat} {R:Nat->RawS} (h:UA w A n R) (hb:Below w.heap.size w w'):UA w' A n R:=by
 intro i hi;obtain⟨b,off,hA,hbl,h0,h1,h2,h3,h4,h5,h6,h7,h8,h9,h10⟩:=h i hi;have e:∀o,w'.cell? ⟨b,o,none⟩=w.cell? ⟨b,o,none⟩:=fun o=>hb.cell (p:=⟨b,o,none⟩) hbl
 exact⟨b,off,hA,Nat.lt_of_lt_of_le hbl hb.size,(e _).trans h0,(e _).trans h1,(e _).trans h2,(e _).trans h3,(e _).trans h4,(e _).trans h5,(e _).trans h6,(e _).trans h7,(e _).trans h8,h9.on hb,h10.on hb⟩
def IB (s:ByteArray):List UInt8:=(s.extract 0 (min (s.size:Int) 40).toNat).data.toList
def QCC (r:RawS):Stm:=⟨r.kind,IB r.reg,IB r.name,Gn r.RE (min r.nE 60),Gn r.RF (min r.nF 60),r.n,r.body,r.els,r.pl⟩
def IF (R:Nat->RawS) (k:Nat):List Stm:=(List.range k).map fun i=>QCC (R i)
theorem QAB (R:Nat->RawS) (k:Nat):IF R (k+1)=IF R k++[QCC (R k)]:=by simp[IF,List.range_succ]
theorem LE (R:Nat->RawS) (k:Nat):(IF R k).length=k:=by simp[IF]
theorem Jf (s:ByteArray):(IB s).length<=40:=by
 unfold IB;rw[E7,ByteArray.size_extract];omega
theorem XQ (R:Nat->RawS) (k:Nat):∀x∈IF R k,Fb x:=by
 intro t ht;simp only[IF,List.mem_map]at ht;obtain⟨i,_,rfl⟩:=ht;have h1:=Jf (R i).reg;have h2:=Jf (R i).name;refine⟨by show(IB (R i).reg).length<=_;omega,by show(IB (R i).name).length<=_;omega,?_,?_,MO _ _,MO _ _⟩
 ·show(Gn _ _).length<=_;rw[Je];omega
 ·show(Gn _ _).length<=_;rw[Je];omega
theorem LF (s:ByteArray):(⟨(IB s).toArray⟩:ByteArray)=s.extract 0 (min (s.size:Int) 40).toNat:=by
 apply LU;unfold IB;simp
def QES (l:List Stm) (w:World) (e:Ending) (w':World):Prop:=∃v,e=.returned v/\Ec w' w.heap.size v l/\(∃g cap,v=.slice (some ⟨g,0,none⟩) l.length cap)/\Below w.heap.size w w'
structure QGw (w:World) (R:Nat->RawS) (k:Nat) (v:Value) (wr:World):Prop where
 row:∃K:List Sv,K.map (·.s)=IF R k/\wr.ownsRow w.heap.size 44 9 v K.length (Bc K)/\∀x∈K,B0 w.heap.size wr x.vE x.s.e/\B0 w.heap.size wr x.vF x.s.f
 low:Below w.heap.size w wr
 form:∃g cap,v=.slice (some ⟨g,0,none⟩) k cap
theorem QAC {w:World} {B:Nat} {v:Value} {n:Nat} {xs:List Value} (h:w.ownsRow B 44 9 v n xs):∀q cs fr,w.heap[q]?=some (.cells cs 46 fr)->¬(v.ownBlock=some q):=by
 intro q cs fr hh e;obtain⟨_,cs',h2⟩:=Ik h q e;rw[h2]at hh;simp at hh
theorem QCD {w:World} {B:Nat} {v:Value} {n:Nat} {xs:List Value} (h:w.ownsRow B 44 9 v n xs):∀q,v.ownBlock=some q->q<w.heap.size:=fun q hq=>(Array.getElem?_eq_some_iff.1 (Ik h q hq).2.choose_spec).1
theorem YP {w:World} {b j:Nat} {v:Value} {o:Obj}:AG (fun q=>q=b) w ((w.setCell ⟨b,j,none⟩ v).alloc o):=(AG.set (g:=b) (j:=j) (w:=w)).trans (AG.of (P:=fun _=>False) ((Below.refl _ _).alloc (Nat.le_refl _) o)) (fun _ _ h=>h) (fun _ _ h=>h.elim)
theorem QCE {w w4:World} {b j:Nat} {v:Value} {o:Obj} (h:Below w.heap.size w w4) (_:w.heap.size=b):AG (fun q=>q=b) w ((w4.setCell ⟨b,j,none⟩ v).alloc o):=(AG.of (P:=fun q=>q=b) h).trans YP (fun _ _ h=>h) (fun _ _ h=>h)
theorem QET (w:World) (b j:Nat) {v:Value} {o:Obj}:((w.setCell ⟨b,j,none⟩ v).alloc o).heap[w.heap.size]?=some o:=by
 have h:=heap_alloc_new (w.setCell ⟨b,j,none⟩ v) o;simpa using h
set_option maxRecDepth 100000 in
set_option maxHeartbeats 16000000 in
theorem QCF (A:Option Addr) (n c:Nat) (R:Nat->RawS) (w:World) (hA:UA w A n R):Calls Tryz.prog 91 #[.slice A n c] w (QES (IF R (min n 50)) w):=by
 obtain⟨i0,hi,hz0,hz1,hz2⟩:=info_parts YN;have HZ:=AA (show Tryz.prog.info? 44=some i0/\i0.zero=some (.agg #[.int .i64 0,.string ⟨#[]⟩,.string ⟨#[]⟩,.slice none 0 0,.slice none 0 0,.int .i64 0,.int .i64 0,.int .i64 0,.int .i64 0])/\i0.size=9/\i0.bytes=120 from⟨hi,hz0,hz1,hz2⟩);have HA:=AA hA;clear hi hz0 hz1 hz2 hA;go_enter Tryz.func91,Tryz.ntmps91;go_wp2_with fail
 go_loopw [3,4] (fun v x wr=>∃k:Nat,k<=n/\k<=50/\x=.int .i64 k/\QGw w R k v wr) (fun _ x _=>50-(intOf x).toNat)
 case atStart=>exact⟨0,Nat.zero_le _,Nat.zero_le _,rfl,⟨[],rfl,⟨rfl,.inr ⟨w.heap.size,0,#[],rfl,Nat.le_refl _,heap_alloc_new w _,by decide,by decide,rfl,rfl⟩⟩,fun x h=>by(cases h)⟩,(Below.refl _ _).alloc (Nat.le_refl _) _,_,_,rfl⟩
 case round=>
  obtain⟨k,hkn,hk50,rfl,hrow⟩:=hrel;have HRW:=AA hrow;have hsz:=hrow.low.size;clear hrow;by_cases hlt:k<n
  ·by_cases hl6:k<50
   ·obtain⟨b,off,hAA,hbl,y0,y1,y2,y3,y4,y5,y6,y7,y8,yE,yF⟩:=HA.out.on HRW.out.low k hlt;subst hAA;have HAE:=AA yE;have HAF:=AA yF;have HS:=AA (QAB R k);clear yE yF;generalize R k=r at *;obtain⟨kind,reg,name,AE,nE,cE,RE,AF,nF,cF,RF,rn,body,els,rpl⟩:=r;simp only at y0 y1 y2 y3 y4 y5 y6 y7 y8 HAE HAF;go_wp2_with fail
    have hb1:Below wr.heap.size wr (wr.alloc (.cells #[.int .i64 kind,.string (reg.extract 0 (min (reg.size:Int) 40).toNat),.string (name.extract 0 (min (name.size:Int) 40).toNat),.slice AE nE cE,.slice AF nF cF,.int .i64 rn,.int .i64 body,.int .i64 els,.int .i64 rpl] 44)):=(Below.refl _ _).alloc (Nat.le_refl _) _;have hx1:=heap_alloc_new wr (.cells #[.int .i64 kind,.string (reg.extract 0 (min (reg.size:Int) 40).toNat),.string (name.extract 0 (min (name.size:Int) 40).toNat),.slice AE nE cE,.slice AF nF cF,.int .i64 rn,.int .i64 body,.int .i64 els,.int .i64 rpl] 44)
    generalize wr.alloc (.cells #[.int .i64 kind,.string (reg.extract 0 (min (reg.size:Int) 40).toNat),.string (name.extract 0 (min (name.size:Int) 40).toNat),.slice AE nE cE,.slice AF nF cF,.int .i64 rn,.int .i64 body,.int .i64 els,.int .i64 rpl] 44)=w1 at *;obtain⟨xb,hxb⟩:∃xb,wr.heap.size=xb:=⟨_,rfl⟩
    rw[hxb]at hx1⊢;have HXB:=AA hxb;have hbw:w.heap.size<=xb:=by omega
    clear y0 y1 y2 y3 y4 y5 y6 y7 y8 hbl hxb;refine(T9 AE nE cE RE _ (HAE.out.on hb1)).mono ?_;rintro e2 w2 ⟨v2,rfl,ho2,hb2⟩;have hl1:=(Array.getElem?_eq_some_iff.1 hx1).1;have hx2:=(hb2.block xb hl1).trans hx1;have hl2:=(Array.getElem?_eq_some_iff.1 hx2).1;obtain⟨A2,n2,c2,rfl⟩:=Eh ho2;have HE2:Hid (B0 w.heap.size w2 (.slice A2 n2 c2) (Gn RE (min nE 60))):=AA (ho2.readE (Nat.le_trans hsz hb1.size));have HB2:Hid (Below wr.heap.size wr w2):=AA (AC hb1 hb2);have z3:w2.cell? ⟨xb,3,none⟩=some (.slice AE nE cE):=by rw[Lib.cell_of_heap hx2];rfl
    have z4:w2.cell? ⟨xb,4,none⟩=some (.slice AF nF cF):=by rw[Lib.cell_of_heap hx2];rfl
    have q3:w2.frozen? ⟨xb,3,none⟩=false:=Lib.frozen_of_heap hx2 3;have HX2:=AA hx2;clear ho2 hb1 hb2 hx1 hl1 hx2;go_wp2_with fail
    have hx3:=Af (j:=3) (v:=.slice A2 n2 c2) HX2.out;have hk3:AG (fun q=>q=xb) w2 (w2.setCell ⟨xb,3,none⟩ (.slice A2 n2 c2)):=AG.set;generalize w2.setCell ⟨xb,3,none⟩ (.slice A2 n2 c2)=w3 at *;have HK3:=AA hk3;have hKW:AG (fun q=>q=xb) wr w3:=(AG.of (P:=fun q=>q=xb) HB2.out).trans hk3 (fun _ _ h=>h) (fun _ _ h=>h);have hB3:Below wr.heap.size wr w3:=hKW.below (fun q hq e=>by have:=HXB.out;omega) (Nat.le_refl _);refine(T9 AF nF cF RF _ (HAF.out.on hB3)).mono ?_;rintro e4 w4 ⟨v4,rfl,ho4,hb4⟩;have hl3:=(Array.getElem?_eq_some_iff.1 hx3).1;have hx4:=(hb4.block xb hl3).trans hx3
    have hl4:=(Array.getElem?_eq_some_iff.1 hx4).1;obtain⟨A4,n4,c4,rfl⟩:=Eh ho4;have HE4:Hid (B0 w.heap.size w4 (.slice A4 n4 c4) (Gn RF (min nF 60))):=AA (ho4.readE (Nat.le_trans hsz hB3.size));have HB4:Hid (Below wr.heap.size wr w4):=AA (AC hB3 hb4);have z4:w4.cell? ⟨xb,4,none⟩=some (.slice AF nF cF):=by rw[Lib.cell_of_heap hx4];rfl
    have q4:w4.frozen? ⟨xb,4,none⟩=false:=Lib.frozen_of_heap hx4 4;have m0:w4.cell? ⟨xb,0,none⟩=some (.int .i64 kind):=by rw[Lib.cell_of_heap hx4];rfl
    have m1:w4.cell? ⟨xb,1,none⟩=some (.string (reg.extract 0 (min (reg.size:Int) 40).toNat)):=by rw[Lib.cell_of_heap hx4];rfl
    have m2:w4.cell? ⟨xb,2,none⟩=some (.string (name.extract 0 (min (name.size:Int) 40).toNat)):=by rw[Lib.cell_of_heap hx4];rfl
    have m3:w4.cell? ⟨xb,3,none⟩=some (.slice A2 n2 c2):=by rw[Lib.cell_of_heap hx4];rfl
    have m5:w4.cell? ⟨xb,5,none⟩=some (.int .i64 rn):=by rw[Lib.cell_of_heap hx4];rfl
    have m6:w4.cell? ⟨xb,6,none⟩=some (.int .i64 body):=by rw[Lib.cell_of_heap hx4];rfl
    have m7:w4.cell? ⟨xb,7,none⟩=some (.int .i64 els):=by rw[Lib.cell_of_heap hx4];rfl
    have m8:w4.cell? ⟨xb,8,none⟩=some (.int .i64 rpl):=by rw[Lib.cell_of_heap hx4];rfl
    have hE2:B0 w.heap.size w4 (.slice A2 n2 c2) (Gn RE (min nE 60)):=(HE2.out.keep HK3.out (fun q cs fr hh e=>by rw[e,HX2.out]at hh;simp at hh)).on hb4;have HE2':=AA hE2;have HX4:=AA hx4;obtain⟨K,hK1,hK2,hK3⟩:=HRW.out.row;have hKl:K.length=k:=by have:=congrArg List.length hK1;rw[List.length_map,LE]at this;exact this
    have HK1:=AA hK1;have HK2:=AA hK2;have HKR:=AA hK3;have HKL:Hid (K.length<=50):=AA (by omega);clear ho4 hb4 hx3 hl3 hx4 z3 q3 hk3 hKW hB3 hE2 hK1 hK2 hK3 hKl;obtain⟨y,hy⟩:∃y:Sv,y=⟨⟨kind,IB reg,IB name,Gn RE (min nE 60),Gn RF (min nF 60),rn,body,els,rpl⟩,.slice A2 n2 c2,.slice A4 n4 c4⟩:=⟨_,rfl⟩
    have HY:=AA hy;have HYC:Hid (#[.int .i64 kind,.string (reg.extract 0 (min (reg.size:Int) 40).toNat),.string (name.extract 0 (min (name.size:Int) 40).toNat),.slice A2 n2 c2,.slice A4 n4 c4,.int .i64 rn,.int .i64 body,.int .i64 els,.int .i64 rpl]=(A8 y).toArray):=AA (by rw[hy];simp only[A8];rw[LF,LF]);have HBE:Hid (Below w4.heap.size w4 (w4.setCell ⟨xb,4,none⟩ (.slice A4 n4 c4))->True):=AA (fun _=>trivial);clear hy HBE
    go_wp2_with (at_builtin;refine wpList_append_own _ rfl (.tmp 45) (.tmp 47) 39 rfl w.heap.size 44 i0 (.agg #[.int .i64 0,.string ⟨#[]⟩,.string ⟨#[]⟩,.slice none 0 0,.slice none 0 0,.int .i64 0,.int .i64 0,.int .i64 0,.int .i64 0]) 9 120 Tryz.underlying39 HZ.out.1 HZ.out.2.1 HZ.out.2.2.1 HZ.out.2.2.2 rfl (by decide) _ K.length (Bc K) rfl ?dO ⟨w4.heap.size,0,none⟩ 1 1 (A8 y) (by rfl) (by rfl) ?d1 ?d2 ?d3 ?d4 ?d5 ?_)
    case dO=>exact Ja HK2.out (QCE HB4.out HXB.out) (fun q hq e=>by have:=QCD HK2.out q hq;have:=HXB.out;omega)
    case d1=>
     rw[HYC.out];exact World.news_of_block (cs:=(A8 y).toArray) (QET _ _ _)
    case d2=>rw[HY.out];exact QB6 ⟨_,_,_,rfl⟩ ⟨_,_,_,rfl⟩
    case d3=>have:=HKL.out;unfold maxLen;omega
    case d4=>have:=HKL.out;omega
    case d5=>have:=HB4.out.size;simp;omega
    intro v5 w5 hown5 hgrow5 _;have HROW:Hid (QGw w R (k+1) v5 w5):=AA (by
     have hkw:=QCE (j:=4) (v:=.slice A4 n4 c4) (o:=.cells (A8 y).toArray 44) HB4.out HXB.out;have hk4:AG (fun q=>q=xb) w4 ((w4.setCell ⟨xb,4,none⟩ (.slice A4 n4 c4)).alloc (.cells (A8 y).toArray 44)):=YP;rw[HYC.out]at hgrow5;have hg5:=AG.grown hgrow5;have hnr:∀q,u3.ownBlock=some q->q<wr.heap.size:=QCD HK2.out;have hk5:AG (fun q=>q=xb\/u3.ownBlock=some q) wr w5:=hkw.trans hg5 (fun _ _ h=>.inl h) (fun _ _ h=>.inr h);have hx4n:∀q cs fr,w4.heap[q]?=some (.cells cs 46 fr)->¬(q=xb\/u3.ownBlock=some q):=by
      rintro q cs fr hh (e|e)
      ·rw[e,HX4.out]at hh;simp at hh
      ·obtain⟨_,cs',h2⟩:=Ik HK2.out q e;rw[HB4.out.block q (hnr q e),h2]at hh;simp at hh
     have hk45:AG (fun q=>q=xb\/u3.ownBlock=some q) w4 w5:=hk4.trans hg5 (fun _ _ h=>.inl h) (fun _ _ h=>.inr h);refine⟨⟨K++[y],?_,?_,?_⟩,HRW.out.low.trans (hk5.below ?_ hsz),?_⟩
     ·rw[List.map_append,HK1.out,HS.out,HY.out];rfl
     ·rw[ER,List.length_append,show Bc [y]=A8 y from by simp[Bc]];exact hown5
     ·intro z hz;rcases List.mem_append.1 hz with hz|hz
      ·obtain⟨r1,r2⟩:=HKR.out z hz;have hn:∀q cs fr,wr.heap[q]?=some (.cells cs 46 fr)->¬(q=xb\/u3.ownBlock=some q):=by
        rintro q cs fr hh (e|e)
        ·have:=(Array.getElem?_eq_some_iff.1 hh).1;have:=HXB.out;omega
        ·exact QAC HK2.out q cs fr hh e
       exact⟨r1.keep hk5 hn,r2.keep hk5 hn⟩
      ·obtain rfl:z=y:=by simpa using hz
       rw[HY.out];exact⟨HE2'.out.keep hk45 hx4n,HE4.out.keep hk45 hx4n⟩
     ·rintro q hq (e|e)
      ·omega
      ·have:=(Ik HK2.out q e).1;omega
     ·have hKl:K.length=k:=by have:=congrArg List.length HK1.out;rw[List.length_map,LE]at this;exact this
      rcases hown5.2 with⟨_,h0⟩|⟨g5,cap5,cur5,h1,_⟩
      ·omega
      ·exact⟨g5,cap5,by rw[<-hKl];exact h1⟩)
    clear hown5 hgrow5;go_wp2_with fail
    go_roundw;case rel=>exact⟨k+1,by omega,by omega,by go_num,HROW.out⟩
    case measure=>simp[intOf];omega
   ·have HE:Hid (min n 50=k):=AA (by omega);go_wp2_with fail
    go_ret;obtain⟨K,h1,h2,h3⟩:=HRW.out.row;exact⟨_,rfl,by rw[HE.out];exact⟨K,h1,h2,h3⟩,by rw[HE.out,LE];exact HRW.out.form,HRW.out.low⟩
  ·have HE:Hid (min n 50=k):=AA (by omega);go_wp2_with fail
   go_ret;obtain⟨K,h1,h2,h3⟩:=HRW.out.row;exact⟨_,rfl,by rw[HE.out];exact⟨K,h1,h2,h3⟩,by rw[HE.out,LE];exact HRW.out.form,HRW.out.low⟩
end Go.Proofs.YthfkpalfopdmhaaGreatDoor
namespace Go.Proofs.YthfkpalfopdmhaaGreatDoor
open Go.RowKit
def Av (P:Nat->Prop) (w:World) (B:Nat) (Ts:List TypeId):Prop:=∀q cs T,B<=q->w.heap[q]?=some (.cells cs T (0,0))->T∈Ts->¬P q
theorem Av.sub {P:Nat->Prop} {w:World} {B:Nat} {Ts Us:List TypeId} (h:Av P w B Ts) (hs:∀T∈Us,T∈Ts):Av P w B Us:=fun q cs T hB hh hT=>h q cs T hB hh (hs T hT)
theorem Av.up {P:Nat->Prop} {w:World} {B B':Nat} {Ts:List TypeId} (h:Av P w B Ts) (hB:B<=B'):Av P w B' Ts:=fun q cs T hq hh hT=>h q cs T (Nat.le_trans hB hq) hh hT
theorem Av.of {P:Nat->Prop} {w:World} {B:Nat} {Ts:List TypeId} (h:∀q,B<=q->q<w.heap.size->¬P q):Av P w B Ts:=fun q _ _ hB hh _=>h q hB (Array.getElem?_eq_some_iff.1 hh).1
theorem Av.none {w:World} {B:Nat} {Ts:List TypeId}:Av (fun _=>False) w B Ts:=fun _ _ _ _ _ _=>id
section
variable {P:Nat->Prop} {w w':World} {B m n:Nat} {T:TypeId} {v:Value} {xs:List Value}
theorem AI (h:w.ownsRow B T m v n xs):∀q,v.ownBlock=some q->B<=q/\∃cs,w.heap[q]?=some (.cells cs T (0,0)):=by
 intro q hq;rcases h.2 with⟨rfl,_⟩|⟨g',cap,cur,rfl,hB,hgg,_⟩
 ·simp[Value.ownBlock]at hq
 ·simp[Value.ownBlock]at hq;subst hq;exact⟨hB,cur,hgg⟩
theorem AO (h:w.ownsRow B T m v n xs) (hk:AG P w w') (hP:∀q,v.ownBlock=some q->¬P q):w'.ownsRow B T m v n xs:=by
 refine⟨h.1,?_⟩;rcases h.2 with h|⟨g',cap,cur,rfl,hB,hgg,r⟩
 ·exact .inl h
 ·exact .inr ⟨g',cap,cur,rfl,hB,by rw[hk.block g' (Array.getElem?_eq_some_iff.1 hgg).1 (hP g' rfl)];exact hgg,r⟩
theorem Gp (h:w.ownsRow B T m v n xs) (hk:AG P w w') (ha:Av P w B [T]):w'.ownsRow B T m v n xs:=
 AO h hk fun q hq=>by
  obtain⟨hB,cs,hh⟩:=AI h q hq;exact ha q cs T hB hh (by simp)
theorem own_base {B':Nat} (h:w.ownsRow B T m v n xs) (hB:B'<=B):w.ownsRow B' T m v n xs:=by
 refine⟨h.1,?_⟩;rcases h.2 with h|⟨g',cap,cur,rfl,hg,r⟩
 ·exact .inl h
 ·exact .inr ⟨g',cap,cur,rfl,Nat.le_trans hB hg,r⟩
theorem AS (h:w.ownsRow B T m v n xs):∃A c,v=.slice A n c/\n<=c/\c<=maxLen/\(0<n->∃g,A=some ⟨g,0,none⟩/\B<=g/\g<w.heap.size/\(∀k,w.frozen? ⟨g,k,none⟩=false)/\∀k u,xs[k]?=some u->w.cell? ⟨g,k,none⟩=some u):=by
 rcases h.2 with⟨rfl,rfl⟩|⟨g,cap,cur,rfl,hB,hh,hn,hm,hs,hc⟩
 ·exact⟨none,0,rfl,Nat.le_refl _,Nat.zero_le _,fun h=>by omega⟩
 ·refine⟨_,cap,rfl,hn,hm,fun _=>⟨g,rfl,hB,(Array.getElem?_eq_some_iff.1 hh).1,fun k=>Lib.frozen_of_heap hh k,fun k u hu=>?_⟩⟩;rw[cell_of_row w g _ cur T (0,0) hh];have hlt:=(List.getElem?_eq_some_iff.1 hu).1;rw[<-hc,List.getElem?_take,if_pos (by have:=h.1;omega)]at hu;simpa using hu
theorem Vg (h:w.ownsRow B T m v n xs):xs.length=n*m:=h.1
end
theorem CQ {α:Type} {f:α->List Value} {m:Nat} (hf:∀a,(f a).length=m):∀(L:List α) (i:Nat) (a:α) (j:Nat) (u:Value),L[i]?=some a->(f a)[j]?=some u->(L.flatMap f)[i*m+j]?=some u
 |[],i,a,j,u,h,_=>by simp at h
 |b::L,0,a,j,u,h,hj=>by
  simp at h;subst h;have:=(List.getElem?_eq_some_iff.1 hj).1;rw[List.flatMap_cons,List.getElem?_append_left (by omega),Nat.zero_mul,Nat.zero_add];exact hj
 |b::L,i+1,a,j,u,h,hj=>by
  rw[List.flatMap_cons,List.getElem?_append_right (by rw[hf,Nat.succ_mul];omega),hf];rw[show(i+1)*m+j-m=i*m+j by rw[Nat.succ_mul];omega];exact CQ hf L i a j u (by simpa using h) hj
theorem B0.keepT {B:Nat} {P:Nat->Prop} {w w':World} {v:Value} {l:List Nod} (h:B0 B w v l) (hk:AG P w w') (ha:Av P w B [46]):B0 B w' v l:=by
 obtain⟨⟨A,c,hv,h1,h2,h3⟩,h4⟩:=h;subst hv;have key:∀q,(Value.slice A l.length c).ownBlock=some q->w'.heap[q]?=w.heap[q]?/\q<w'.heap.size:=by
  intro q hq;obtain⟨hB,cs,hh⟩:=h4 q hq;have hlt:=(Array.getElem?_eq_some_iff.1 hh).1;exact⟨hk.block q hlt (ha q cs 46 hB hh (by simp)),Nat.lt_of_lt_of_le hlt hk.size⟩
 refine⟨⟨A,c,rfl,h1,h2,fun i t hi=>?_⟩,fun q hq=>?_⟩
 ·obtain⟨g,o,rfl,hg,c0,c1,c2,c3⟩:=h3 i t hi;obtain⟨e1,e2⟩:=key g rfl;have e:∀j,w'.cell? ⟨g,j,none⟩=w.cell? ⟨g,j,none⟩:=fun j=>World.cell?_of_block e1
  exact⟨g,o,rfl,e2,by rw[e,c0],by rw[e,c1],by rw[e,c2],by rw[e,c3]⟩
 ·obtain⟨hB,cs,hh⟩:=h4 q hq;exact⟨hB,cs,by rw[(key q hq).1];exact hh⟩
theorem B0.base {B B':Nat} {w:World} {v:Value} {l:List Nod} (h:B0 B w v l) (hB:B'<=B):B0 B' w v l:=
 ⟨h.rd,fun q hq=>by obtain⟨h1,h2⟩:=h.blk q hq;exact⟨Nat.le_trans hB h1,h2⟩⟩
theorem Ec.keepT {B:Nat} {P:Nat->Prop} {w w':World} {v:Value} {M:List Stm} (h:Ec w B v M) (hk:AG P w w') (ha:Av P w B [44,46]):Ec w' B v M:=by
 obtain⟨K,h1,h2,h3⟩:=h;have a46:Av P w B [46]:=ha.sub (by simp);exact⟨K,h1,Gp h2 hk (ha.sub (by simp)),fun x hx=>⟨(h3 x hx).1.keepT hk a46,(h3 x hx).2.keepT hk a46⟩⟩
theorem Ec.base {B B':Nat} {w:World} {v:Value} {M:List Stm} (h:Ec w B v M) (hB:B'<=B):Ec w B' v M:=by
 obtain⟨K,h1,h2,h3⟩:=h;exact⟨K,h1,own_base h2 hB,fun x hx=>⟨(h3 x hx).1.base hB,(h3 x hx).2.base hB⟩⟩
theorem Ec.slice {B:Nat} {w:World} {v:Value} {M:List Stm} (h:Ec w B v M):∃A c,v=.slice A M.length c:=by
 obtain⟨K,h1,h2,_⟩:=h;obtain⟨A,c,hv,_⟩:=AS h2;exact⟨A,c,by rw[hv,<-h1,List.length_map]⟩
def Am (c:Cel):List Value:=[.string ⟨c.name.toArray⟩,.int .i64 c.n,.int .i64 c.pl]
def Bw (w:World) (B:Nat) (v:Value) (l:List Cel):Prop:=w.ownsRow B 48 3 v l.length (l.flatMap Am)
def strV (s:List UInt8):Value:=.string ⟨s.toArray⟩
def CS (w:World) (B:Nat) (v:Value) (l:List (List UInt8)):Prop:=w.ownsRow B 9 1 v l.length (l.map strV)
section
variable {P:Nat->Prop} {w w':World} {B B':Nat} {v:Value}
theorem UE (c:Cel):(Am c).length=3:=rfl
theorem Bw.keepT {l:List Cel} (h:Bw w B v l) (hk:AG P w w') (ha:Av P w B [48]):Bw w' B v l:=Gp h hk ha
theorem Bw.base {l:List Cel} (h:Bw w B v l) (hB:B'<=B):Bw w B' v l:=own_base h hB
theorem Bw.on {l:List Cel} (h:Bw w B v l) (hb:Below w.heap.size w w'):Bw w' B v l:=AO h (AG.of (P:=fun _=>False) hb) (fun _ _=>id)
theorem Hj (w:World) (B:Nat):Bw w B (.slice none 0 0) []:=World.ownsRow_nil _ _ _ _
theorem CS.keepT {l:List (List UInt8)} (h:CS w B v l) (hk:AG P w w') (ha:Av P w B [9]):CS w' B v l:=Gp h hk ha
theorem CS.base {l:List (List UInt8)} (h:CS w B v l) (hB:B'<=B):CS w B' v l:=own_base h hB
theorem CS.on {l:List (List UInt8)} (h:CS w B v l) (hb:Below w.heap.size w w'):CS w' B v l:=AO h (AG.of (P:=fun _=>False) hb) (fun _ _=>id)
theorem Jg (w:World) (B:Nat):CS w B (.slice none 0 0) []:=World.ownsRow_nil _ _ _ _
theorem Bw.reads {l:List Cel} (h:Bw w B v l):∃A c,v=.slice A l.length c/\l.length<=c/\c<=maxLen/\∀i x,l[i]?=some x->∃g,A=some ⟨g,0,none⟩/\B<=g/\g<w.heap.size/\
  w.cell? ⟨g,i*3,none⟩=some (.string ⟨x.name.toArray⟩)/\w.cell? ⟨g,i*3+1,none⟩=some (.int .i64 x.n)/\w.cell? ⟨g,i*3+2,none⟩=some (.int .i64 x.pl):=by
 obtain⟨A,c,hv,h1,h2,h3⟩:=AS h;refine⟨A,c,hv,h1,h2,fun i x hi=>?_⟩;obtain⟨g,hA,hB,hg,_,hc⟩:=h3 (by have:=(List.getElem?_eq_some_iff.1 hi).1;omega);exact⟨g,hA,hB,hg,hc _ _ (CQ UE l i x 0 _ hi rfl),hc _ _ (CQ UE l i x 1 _ hi rfl),hc _ _ (CQ UE l i x 2 _ hi rfl)⟩
theorem CS.reads {l:List (List UInt8)} (h:CS w B v l):∃A c,v=.slice A l.length c/\l.length<=c/\c<=maxLen/\∀i x,l[i]?=some x->∃g,A=some ⟨g,0,none⟩/\B<=g/\g<w.heap.size/\w.cell? ⟨g,i,none⟩=some (.string ⟨x.toArray⟩):=by
 obtain⟨A,c,hv,h1,h2,h3⟩:=AS h;refine⟨A,c,hv,h1,h2,fun i x hi=>?_⟩;obtain⟨g,hA,hB,hg,_,hc⟩:=h3 (by have:=(List.getElem?_eq_some_iff.1 hi).1;omega);exact⟨g,hA,hB,hg,hc _ _ (by rw[List.getElem?_map,hi];rfl)⟩
end
structure Lv where
 l:List Cel
 v:Value
structure Tv where
 t:Thr
 vR:Value
 vB:Value
structure Cv where
 c:Clm
 vE:Value
def DI (x:Tv):List Value:=[.string ⟨x.t.name.toArray⟩,x.vR,x.vB,.int .i64 x.t.pl]
def Ed (x:Cv):List Value:=[x.vE,.int .i64 x.c.pl]
theorem PR (x:Tv):(DI x).length=4:=rfl
theorem YS (x:Cv):(Ed x).length=2:=rfl
structure Ep (w:World) (B:Nat) (v:Value) (K:List Lv):Prop where
 row:w.ownsRow B 23 1 v K.length (K.map (·.v))
 sub:∀x∈K,Bw w B x.v x.l
structure Ci (w:World) (B:Nat) (v:Value) (K:List Tv):Prop where
 row:w.ownsRow B 41 4 v K.length (K.flatMap DI)
 sub:∀x∈K,CS w B x.vR x.t.regs/\Ec w B x.vB x.t.body
structure Dy (w:World) (B:Nat) (v:Value) (K:List Cv):Prop where
 row:w.ownsRow B 50 2 v K.length (K.flatMap Ed)
 sub:∀x∈K,B0 B w x.vE x.c.e
def Iq (w:World) (B:Nat) (v:Value) (l:List (List Cel)):Prop:=∃K,Ep w B v K/\K.map (·.l)=l
def EV (w:World) (B:Nat) (v:Value) (l:List Thr):Prop:=∃K,Ci w B v K/\K.map (·.t)=l
def Ir (w:World) (B:Nat) (v:Value) (l:List Clm):Prop:=∃K,Dy w B v K/\K.map (·.c)=l
section
variable {P:Nat->Prop} {w w':World} {B B':Nat} {v:Value}
theorem Ep.keepT {K:List Lv} (h:Ep w B v K) (hk:AG P w w') (ha:Av P w B [23,48]):Ep w' B v K:=⟨Gp h.row hk (ha.sub (by simp)),fun x hx=>(h.sub x hx).keepT hk (ha.sub (by simp))⟩
theorem Ci.keepT {K:List Tv} (h:Ci w B v K) (hk:AG P w w') (ha:Av P w B [41,9,44,46]):Ci w' B v K:=⟨Gp h.row hk (ha.sub (by simp)),fun x hx=>⟨(h.sub x hx).1.keepT hk (ha.sub (by simp)),(h.sub x hx).2.keepT hk (ha.sub (by simp))⟩⟩
theorem Dy.keepT {K:List Cv} (h:Dy w B v K) (hk:AG P w w') (ha:Av P w B [50,46]):Dy w' B v K:=⟨Gp h.row hk (ha.sub (by simp)),fun x hx=>(h.sub x hx).keepT hk (ha.sub (by simp))⟩
theorem Ep.base {K:List Lv} (h:Ep w B v K) (hB:B'<=B):Ep w B' v K:=⟨own_base h.row hB,fun x hx=>(h.sub x hx).base hB⟩
theorem Ci.base {K:List Tv} (h:Ci w B v K) (hB:B'<=B):Ci w B' v K:=⟨own_base h.row hB,fun x hx=>⟨(h.sub x hx).1.base hB,(h.sub x hx).2.base hB⟩⟩
theorem Dy.base {K:List Cv} (h:Dy w B v K) (hB:B'<=B):Dy w B' v K:=⟨own_base h.row hB,fun x hx=>(h.sub x hx).base hB⟩
theorem Iq.keepT {l:List (List Cel)} (h:Iq w B v l) (hk:AG P w w') (ha:Av P w B [23,48]):Iq w' B v l:=by obtain⟨K,h1,h2⟩:=h;exact⟨K,h1.keepT hk ha,h2⟩
theorem EV.keepT {l:List Thr} (h:EV w B v l) (hk:AG P w w') (ha:Av P w B [41,9,44,46]):EV w' B v l:=by obtain⟨K,h1,h2⟩:=h;exact⟨K,h1.keepT hk ha,h2⟩
theorem Ir.keepT {l:List Clm} (h:Ir w B v l) (hk:AG P w w') (ha:Av P w B [50,46]):Ir w' B v l:=by obtain⟨K,h1,h2⟩:=h;exact⟨K,h1.keepT hk ha,h2⟩
theorem Iq.base {l:List (List Cel)} (h:Iq w B v l) (hB:B'<=B):Iq w B' v l:=by obtain⟨K,h1,h2⟩:=h;exact⟨K,h1.base hB,h2⟩
theorem EV.base {l:List Thr} (h:EV w B v l) (hB:B'<=B):EV w B' v l:=by obtain⟨K,h1,h2⟩:=h;exact⟨K,h1.base hB,h2⟩
theorem Ir.base {l:List Clm} (h:Ir w B v l) (hB:B'<=B):Ir w B' v l:=by obtain⟨K,h1,h2⟩:=h;exact⟨K,h1.base hB,h2⟩
theorem LI (w:World) (B:Nat):Iq w B (.slice none 0 0) []:=⟨[],⟨World.ownsRow_nil _ _ _ _,fun x h=>by cases h⟩,rfl⟩
theorem Jh (w:World) (B:Nat):EV w B (.slice none 0 0) []:=⟨[],⟨World.ownsRow_nil _ _ _ _,fun x h=>by cases h⟩,rfl⟩
theorem LJ (w:World) (B:Nat):Ir w B (.slice none 0 0) []:=⟨[],⟨World.ownsRow_nil _ _ _ _,fun x h=>by cases h⟩,rfl⟩
theorem Ep.on {K:List Lv} (h:Ep w B v K) (hb:Below w.heap.size w w'):Ep w' B v K:=h.keepT (AG.of hb) Av.none
theorem Ci.on {K:List Tv} (h:Ci w B v K) (hb:Below w.heap.size w w'):Ci w' B v K:=h.keepT (AG.of hb) Av.none
theorem Dy.on {K:List Cv} (h:Dy w B v K) (hb:Below w.heap.size w w'):Dy w' B v K:=h.keepT (AG.of hb) Av.none
theorem Iq.on {l:List (List Cel)} (h:Iq w B v l) (hb:Below w.heap.size w w'):Iq w' B v l:=h.keepT (AG.of hb) Av.none
theorem EV.on {l:List Thr} (h:EV w B v l) (hb:Below w.heap.size w w'):EV w' B v l:=h.keepT (AG.of hb) Av.none
theorem Ir.on {l:List Clm} (h:Ir w B v l) (hb:Below w.heap.size w w'):Ir w' B v l:=h.keepT (AG.of hb) Av.none
theorem Ep.reads {K:List Lv} (h:Ep w B v K):∃A c,v=.slice A K.length c/\K.length<=c/\c<=maxLen/\∀i x,K[i]?=some x->∃g,A=some ⟨g,0,none⟩/\B<=g/\g<w.heap.size/\w.cell? ⟨g,i,none⟩=some x.v:=by
 obtain⟨A,c,hv,h1,h2,h3⟩:=AS h.row;refine⟨A,c,hv,h1,h2,fun i x hi=>?_⟩;obtain⟨g,hA,hB,hg,_,hc⟩:=h3 (by have:=(List.getElem?_eq_some_iff.1 hi).1;omega);exact⟨g,hA,hB,hg,hc _ _ (by rw[List.getElem?_map,hi];rfl)⟩
theorem Ci.reads {K:List Tv} (h:Ci w B v K):∃A c,v=.slice A K.length c/\K.length<=c/\c<=maxLen/\∀i x,K[i]?=some x->∃g,A=some ⟨g,0,none⟩/\B<=g/\g<w.heap.size/\
  w.cell? ⟨g,i*4,none⟩=some (.string ⟨x.t.name.toArray⟩)/\w.cell? ⟨g,i*4+1,none⟩=some x.vR/\w.cell? ⟨g,i*4+2,none⟩=some x.vB/\w.cell? ⟨g,i*4+3,none⟩=some (.int .i64 x.t.pl):=by
 obtain⟨A,c,hv,h1,h2,h3⟩:=AS h.row;refine⟨A,c,hv,h1,h2,fun i x hi=>?_⟩;obtain⟨g,hA,hB,hg,_,hc⟩:=h3 (by have:=(List.getElem?_eq_some_iff.1 hi).1;omega);exact⟨g,hA,hB,hg,hc _ _ (CQ PR K i x 0 _ hi rfl),hc _ _ (CQ PR K i x 1 _ hi rfl),hc _ _ (CQ PR K i x 2 _ hi rfl),hc _ _ (CQ PR K i x 3 _ hi rfl)⟩
theorem Dy.reads {K:List Cv} (h:Dy w B v K):∃A c,v=.slice A K.length c/\K.length<=c/\c<=maxLen/\∀i x,K[i]?=some x->∃g,A=some ⟨g,0,none⟩/\B<=g/\g<w.heap.size/\
  w.cell? ⟨g,i*2,none⟩=some x.vE/\w.cell? ⟨g,i*2+1,none⟩=some (.int .i64 x.c.pl):=by
 obtain⟨A,c,hv,h1,h2,h3⟩:=AS h.row;refine⟨A,c,hv,h1,h2,fun i x hi=>?_⟩;obtain⟨g,hA,hB,hg,_,hc⟩:=h3 (by have:=(List.getElem?_eq_some_iff.1 hi).1;omega);exact⟨g,hA,hB,hg,hc _ _ (CQ YS K i x 0 _ hi rfl),hc _ _ (CQ YS K i x 1 _ hi rfl)⟩
end
structure Pv where
 a:Value
 b:Value
 c:Value
 d:Value
 e:Value
 f:Value
def Hl (p:Pv):Value:=.agg #[p.a,p.b,p.c,p.d,p.e,p.f]
def noPv:Pv:=⟨.slice none 0 0,.slice none 0 0,.slice none 0 0,.slice none 0 0,.slice none 0 0,.slice none 0 0⟩
structure B9 (w:World) (B:Nat) (v:Pv) (p:Prg):Prop where
 lines:Iq w B v.a p.lines
 vols:Bw w B v.b p.vols
 locks:Bw w B v.c p.locks
 threads:EV w B v.d p.threads
 recs:EV w B v.e p.recs
 claims:Ir w B v.f p.claims
section
variable {P:Nat->Prop} {w w':World} {B B':Nat} {v:Pv} {p:Prg}
theorem B9.keepT (h:B9 w B v p) (hk:AG P w w') (ha:Av P w B [23,48,41,9,44,46,50]):B9 w' B v p:=
 ⟨h.lines.keepT hk (ha.sub (by simp)),h.vols.keepT hk (ha.sub (by simp)),h.locks.keepT hk (ha.sub (by simp)),h.threads.keepT hk (ha.sub (by simp)),h.recs.keepT hk (ha.sub (by simp)),h.claims.keepT hk (ha.sub (by simp))⟩
theorem B9.keep (h:B9 w B v p) (hk:AG P w w') (hP:∀q,B<=q->q<w.heap.size->¬P q):B9 w' B v p:=h.keepT hk (Av.of hP)
theorem B9.on (h:B9 w B v p) (hb:Below w.heap.size w w'):B9 w' B v p:=h.keepT (AG.of (P:=fun _=>False) hb) Av.none
theorem B9.base (h:B9 w B v p) (hB:B'<=B):B9 w B' v p:=⟨h.lines.base hB,h.vols.base hB,h.locks.base hB,h.threads.base hB,h.recs.base hB,h.claims.base hB⟩
theorem Ji (w:World) (B:Nat):B9 w B noPv noPg:=⟨LI w B,Hj w B,Hj w B,Jh w B,Jh w B,LJ w B⟩
end
end Go.Proofs.YthfkpalfopdmhaaGreatDoor
namespace Go.Proofs.YthfkpalfopdmhaaGreatDoor
open Go.RowKit
def Bf (w:World) (g:Nat) (lv:Value) (i:Int) (p:Pv) (q:Int):Prop:=w.heap[g]?=some (.cells #[lv,.int .i64 i,p.a,p.b,p.c,p.d,p.e,p.f,.int .i64 q] 58 (0,0))
structure S5 (M:List Tok) (B g:Nat) (lv:Value) (i:Nat) (p:Pv) (w:World):Prop where
 blk:∃q:Int,Bf w g lv i p q
 toks:L2 w B lv M
 tabs:Tabs w
 gB:8<g
 BB:8<B
 len:M.length<=10000
 small:Gf M
 il:i<=M.length
section
variable {M:List Tok} {B g i:Nat} {lv:Value} {p:Pv} {w:World} {q:Int}
theorem Bf.lt {j:Int} (h:Bf w g lv j p q):g<w.heap.size:=(Array.getElem?_eq_some_iff.1 h).1
structure C5 (w:World) (g:Nat) (lv:Value) (i:Int) (p:Pv) (q:Int):Prop where
 lt:g<w.heap.size
 c0:w.cell? ⟨g,0,none⟩=some lv
 c1:w.cell? ⟨g,1,none⟩=some (.int .i64 i)
 c2:w.cell? ⟨g,2,none⟩=some p.a
 c3:w.cell? ⟨g,3,none⟩=some p.b
 c4:w.cell? ⟨g,4,none⟩=some p.c
 c5:w.cell? ⟨g,5,none⟩=some p.d
 c6:w.cell? ⟨g,6,none⟩=some p.e
 c7:w.cell? ⟨g,7,none⟩=some p.f
 c8:w.cell? ⟨g,8,none⟩=some (.int .i64 q)
 fz:∀j,w.frozen? ⟨g,j,none⟩=false
theorem Bf.cells {j:Int} (h:Bf w g lv j p q):C5 w g lv j p q:=
 ⟨h.lt,by rw[Lib.cell_of_heap h];rfl,by rw[Lib.cell_of_heap h];rfl,by rw[Lib.cell_of_heap h];rfl,by rw[Lib.cell_of_heap h];rfl,by rw[Lib.cell_of_heap h];rfl,by rw[Lib.cell_of_heap h];rfl,by rw[Lib.cell_of_heap h];rfl,by rw[Lib.cell_of_heap h];rfl,by rw[Lib.cell_of_heap h];rfl,fun k=>Lib.frozen_of_heap h k⟩
theorem S5.lt (h:S5 M B g lv i p w):g<w.heap.size:=by obtain⟨q,hq⟩:=h.blk;exact hq.lt
theorem S5.read (h:S5 M B g lv i p w):GX w lv M:=h.toks.read
theorem S5.own_ne (h:S5 M B g lv i p w):∀q,lv.ownBlock=some q->q≠g/\q<w.heap.size/\B<=q:=by
 intro q hq;obtain⟨hB,cs,hh⟩:=AI h.toks q hq;obtain⟨_,hb⟩:=h.blk;refine⟨?_,(Array.getElem?_eq_some_iff.1 hh).1,hB⟩;rintro rfl;rw[hb]at hh;simp at hh
theorem S5.put {w':World} {i':Nat} {p':Pv} {q':Int} (h:S5 M B g lv i p w) (hk:AG (fun k=>k=g) w w') (hb:Bf w' g lv i' p' q') (hi:i'<=M.length):S5 M B g lv i' p' w':=
 ⟨⟨q',hb⟩,AO h.toks hk (fun k hk e=>(h.own_ne k hk).1 e),h.tabs.same fun k hk8=>hk.block k (by have:=h.tabs.lt2;omega) (by have:=h.gB;omega),h.gB,h.BB,h.len,h.small,hi⟩
theorem S5.on {w':World} (h:S5 M B g lv i p w) (hb:Below w.heap.size w w'):S5 M B g lv i p w':=by
 obtain⟨q,hq⟩:=h.blk;exact h.put (AG.of hb) (show Bf w' g lv i p q from by unfold Bf;rw[hb.block g hq.lt];exact hq) h.il
theorem S5.set1 {j:Nat} (h:S5 M B g lv i p w) (hj:j<=M.length):S5 M B g lv j p (w.setCell ⟨g,1,none⟩ (.int .i64 j)):=by
 obtain⟨q,hq⟩:=h.blk;have hb:Bf (w.setCell ⟨g,1,none⟩ (.int .i64 j)) g lv j p q:=Af hq;exact h.put AG.set hb hj
theorem S5.set8 (h:S5 M B g lv i p w) (pl:Int):S5 M B g lv i p (w.setCell ⟨g,8,none⟩ (.int .i64 pl))/\Bf (w.setCell ⟨g,8,none⟩ (.int .i64 pl)) g lv i p pl:=by
 obtain⟨q,hq⟩:=h.blk;have hb:Bf (w.setCell ⟨g,8,none⟩ (.int .i64 pl)) g lv i p pl:=Af hq;exact⟨h.put AG.set hb h.il,hb⟩
theorem S5.tok (h:S5 M B g lv i p w) {j:Nat} {t:Tok} (ht:M[j]?=some t):∃b c,lv=.slice (some ⟨b,0,none⟩) M.length c/\M.length<=c/\b<w.heap.size/\w.cell? ⟨b,j*4,none⟩=some (.int .i64 t.kind)/\w.cell? ⟨b,j*4+1,none⟩=some (.string ⟨t.text.toArray⟩)/\w.cell? ⟨b,j*4+2,none⟩=some (.int .i64 t.n)/\w.cell? ⟨b,j*4+3,none⟩=some (.int .i64 t.pl):=by
 obtain⟨A,c,hv,hc,hr⟩:=h.read;obtain⟨b,hA,hb,h0,h1,h2,h3⟩:=hr j t ht;exact⟨b,c,by rw[hv,hA],hc,hb,h0,h1,h2,h3⟩
set_option maxHeartbeats 2000000 in
theorem Nq (h:S5 M B g lv i p w) {q:Bool} (hq:decide (M.length<=i)=q):Calls Tryz.prog 78 #[.pointer (some ⟨g,0,none⟩)] w (fun e w'=>e=.returned (.bool q)/\∃n,w'=w.drewN n):=by
 obtain⟨pl,hb⟩:=h.blk;obtain⟨hgl,c0,c1, -, -, -, -, -, -, -, -⟩:=hb.cells;obtain⟨A,c,rfl,hc,_⟩:=h.read;have HQ:=AA hq;clear h hq hb;go_enter Tryz.func78,Tryz.ntmps78;go_wp2_with fail
 go_quiet (fail)
 go_wp2_with fail
 go_ret;exact⟨AH (by rw[<-HQ.out]),_,rfl⟩
set_option maxHeartbeats 2000000 in
theorem MV (h:S5 M B g lv i p w) {q:Bool} (hq:decide (M.length<=i)=q):Calls Tryz.prog 78 #[.pointer (some ⟨g,0,none⟩)] w (AK q w):=
 (Nq h hq).mono fun e w' ⟨h1,n,h2⟩=>⟨h1,by rw[h2];exact AM _ _⟩
set_option maxRecDepth 100000 in
set_option maxHeartbeats 4000000 in
theorem Q1 (h:S5 M B g lv i p w):Calls Tryz.prog 141 #[.pointer (some ⟨g,0,none⟩)] w (L6 (AN M i) w):=by
 have HS:=AA h;obtain⟨pl,hb⟩:=h.blk;obtain⟨hgl,c0,c1, -, -, -, -, -, -, -, -⟩:=hb.cells;have hlen:=h.len;clear h hb;go_enter Tryz.func141,Tryz.ntmps141;go_wp2_with fail
 go_region_held3 (fun w'=>w'.cell? ⟨g,0,none⟩=some lv/\w'.cell? ⟨g,1,none⟩=some (.int .i64 i)/\Below w.heap.size w w')
  (first|exact⟨c0,c1,Below.refl _ _⟩|exact⟨c0,c1,AD _⟩|exact⟨(hb1.cell (p:=⟨g,0,none⟩) hgl).trans c0,(hb1.cell (p:=⟨g,1,none⟩) hgl).trans c1,AC (AD _) hb1⟩)
  (first|(go_at_call 187;refine(IP lv M i _ (HS.out.on (AD _)).read HS.out.len HS.out.small).mono ?_;rintro e w1 ⟨rfl,hb1⟩))
 go_wp2_with fail
 go_ret;exact⟨rfl,AC (AD w) hb1⟩
def QGE (M:List Tok) (B g:Nat) (lv:Value) (i:Nat) (p:Pv) (er pl:Int) (w:World) (e:Ending) (w':World):Prop:=
 e=.returned (.int .i64 er)/\S5 M B g lv i p w'/\Bf w' g lv i p pl/\AG (fun k=>k=g) w w'
set_option maxRecDepth 100000 in
set_option maxHeartbeats 4000000 in
theorem LN (h:S5 M B g lv i p w):Calls Tryz.prog 79 #[.pointer (some ⟨g,0,none⟩)] w (QGE M B g lv i p (if i<M.length then 5 else 6) (AN M i) w):=by
 have HS:=AA h;have HP:=AA (Q1 h);obtain⟨q,hq⟩:∃q,decide (M.length<=i)=q:=⟨_,rfl⟩
 have HQ:=AA hq;obtain⟨er,her⟩:∃er:Int,(if i<M.length then 5 else 6)=er:=⟨_,rfl⟩
 have HE:=AA her;rw[her];clear h hq her;go_enter Tryz.func79,Tryz.ntmps79;go_wp2_with fail
 refine HP.out.mono ?_;rintro e w1 ⟨rfl,hb1⟩;have HS1:=AA (HS.out.on hb1);have HB1:=AA hb1;obtain⟨pl,hb⟩:=HS1.out.blk;obtain⟨hgl,c0,c1, -, -, -, -, -, -,c8,fz⟩:=hb.cells;have f8:=fz 8;clear hb hb1 fz;go_wp2_with fail
 obtain⟨hs2,hb2⟩:=HS1.out.set8 (AN M i);have HS2:=AA hs2;have HK:=AA ((AG.of (P:=fun k=>k=g) HB1.out).trans (AG.set (j:=8) (v:=.int .i64 (AN M i))) (fun _ _ h=>h) (fun _ _ h=>h));have HX:=AA hb2;generalize w1.setCell ⟨g,8,none⟩ (.int .i64 (AN M i))=w2 at *;clear c0 c1 c8 f8 hs2 hb2;refine(MV HS2.out HQ.out).mono ?_;rintro e w3 ⟨rfl,hb3⟩;have HS3:=AA (HS2.out.on hb3);have HX3:Hid (Bf w3 g lv i p (AN M i)):=AA (by unfold Bf;rw[hb3.block g HS2.out.lt];exact HX.out);have HK3:=AA (HK.out.trans (AG.of (P:=fun _=>False) hb3) (R:=fun k=>k=g) (fun _ _ h=>h) (fun _ _ h=>h.elim))
 clear hb3;cases q with
 |true=>
  have he:er=6:=by have h1:=HQ.out;have h2:=HE.out;simp at h1;rw[if_neg (by omega)]at h2;exact h2.symm
  subst he;go_wp2_with fail
  go_ret;exact⟨rfl,HS3.out,HX3.out,HK3.out⟩
 |false=>
  have he:er=5:=by have h1:=HQ.out;have h2:=HE.out;simp at h1;rw[if_pos (by omega)]at h2;exact h2.symm
  subst he;go_wp2_with fail
  go_ret;exact⟨rfl,HS3.out,HX3.out,HK3.out⟩
def QGF {α:Type} (r:RS α) (ok:α->Nat->World->Prop) (g:Nat) (lv:Value) (p:Pv) (w:World) (e:Ending) (w':World):Prop:=
 AG (fun k=>k=g) w w'/\match r with
 |.ok a j=>e=.returned (.int .i64 0)/\ok a j w'
 |.bad er pl=>e=.returned (.int .i64 er)/\er≠0/\∃i:Int,Bf w' g lv i p pl
theorem Re (h:S5 M B g lv i p w) {s:List UInt8} {b:Bool} (hb:isB M i s=b) {w':World} (hw:Below w.heap.size w w'):Calls Tryz.prog 77 #[lv,.int .i64 i,.string ⟨s.toArray⟩] w' (AK b w'):=GG hb lv w' (h.on hw).read
set_option maxRecDepth 100000 in
set_option maxHeartbeats 4000000 in
theorem Ya (h:S5 M B g lv i p w) (s:List UInt8):Calls Tryz.prog 186 #[.pointer (some ⟨g,0,none⟩),.string ⟨s.toArray⟩] w (QGF (Bo M i s) (fun _ j w'=>S5 M B g lv j p w') g lv p w):=by
 have HS:=AA h;obtain⟨pl,hb⟩:=h.blk;obtain⟨hgl,c0,c1, -, -, -, -, -, -, -, -⟩:=hb.cells;have hlen:=h.len;obtain⟨b,hq⟩:∃b,isB M i s=b:=⟨_,rfl⟩
 have HQ:=AA hq;clear h hb hq;go_enter Tryz.func186,Tryz.ntmps186;go_wp2_with fail
 go_region_held3 (fun w'=>w'.cell? ⟨g,0,none⟩=some lv/\w'.cell? ⟨g,1,none⟩=some (.int .i64 i)/\Below w.heap.size w w')
  (first|exact⟨c0,c1,Below.refl _ _⟩|exact⟨c0,c1,AD _⟩|exact⟨(hb1.cell (p:=⟨g,0,none⟩) hgl).trans c0,(hb1.cell (p:=⟨g,1,none⟩) hgl).trans c1,AC (AD _) hb1⟩)
  (first|(go_at_call 77;refine(Re HS.out HQ.out (AD _)).mono ?_;rintro e w1 ⟨rfl,hb1⟩))
 have HB1:=AA (AC (AD w) hb1);have HS1:=AA (HS.out.on HB1.out);clear hb1 c0 c1;cases b with
 |false=>
  obtain⟨er,her,hne⟩:∃er:Int,(if i<M.length then 5 else 6)=er/\er≠0:=⟨_,rfl,by split<;>decide⟩
  have HM:Hid (Bo M i s=.bad er (AN M i)):=AA (by rw[<-her];unfold Bo;rw[if_neg (by rw[HQ.out];simp)];rfl);have HE:=AA her;have HN:=AA hne;clear her hne;go_wp2_with fail
  refine(LN HS1.out).mono ?_;rw[HE.out];rintro e w2 ⟨rfl,hs2,hb2,hk2⟩;have HK:=AA ((AG.of (P:=fun k=>k=g) HB1.out).trans hk2 (fun _ _ h=>h) (fun _ _ h=>h));have HB2:=AA hb2;clear hs2 hk2 hb2;go_wp2_with fail
  go_ret;rw[HM.out];exact⟨HK.out,rfl,HN.out,i,HB2.out⟩
 |true=>
  have hi:=Bl HQ.out;have HM:Hid (Bo M i s=.ok () (i+1)):=AA (by unfold Bo;rw[if_pos HQ.out]);obtain⟨pl,hb⟩:=HS1.out.blk;obtain⟨hgl1, -,c1, -, -, -, -, -, -, -,fz⟩:=hb.cells;have f1:=fz 1;have hw1:IntKind.i64.wrap ((i:Int)+1)=(i:Int)+1:=IntWalk.i64_in _ (by omega);have HI:Hid (i+1<=M.length):=AA (by omega);clear hb fz hi;go_wp2_with fail
  go_ret;rw[HM.out];have h1:=HS1.out.set1 HI.out;exact⟨(AG.of (P:=fun k=>k=g) HB1.out).trans AG.set (fun _ _ h=>h) (fun _ _ h=>h),rfl,h1⟩
end
end Go.Proofs.YthfkpalfopdmhaaGreatDoor
