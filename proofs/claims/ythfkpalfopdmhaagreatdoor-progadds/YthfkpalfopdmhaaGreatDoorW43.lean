/- Texts of the walk, packed. -/
import Derived.Test.YthfkpalfopdmhaaGreatDoorW37
import Derived.Test.YthfkpalfopdmhaaGreatDoorW42
import Derived.Test.YthfkpalfopdmhaaGreatDoorW16
import Derived.Test.YthfkpalfopdmhaaGreatDoorW40
import Derived.Test.YthfkpalfopdmhaaGreatDoorW41
import Derived.Test.YthfkpalfopdmhaaGreatDoorW29
import Derived.Test.YthfkpalfopdmhaaGreatDoorW00
namespace Go.Proofs.YthfkpalfopdmhaaGreatDoor
open Go.RowKit
theorem Xv {c:UInt8} {m:List UInt8} (h:Ew c=true):AZ (c::m)=DY (c::m):=by
 unfold AZ;simp[h]
theorem V7 (l:List UInt8):CE (AV l 0).toks:=by
 intro t ht hn;obtain⟨hc,hne⟩:=Yw l 0 t ht;cases hl:t.text with
 |nil=>exact absurd hl hne
 |cons c m=>
  rw[hl]at hc hn;have hlet:Ew c=true:=by
   unfold nameB at hn;simp at hn;exact hn.1.1.2
  rw[Xv hlet]at hc;unfold DY at hc;split at hc
  ·have h1:=congrArg Cut.err hc;simp[Cut.no]at h1
  ·exact(congrArg Cut.kind hc).symm
set_option maxHeartbeats 1000000 in
theorem QAv (s:ByteArray) (w:World) (hs:4000<s.size):Calls Tryz.prog 21 #[.string s] w (TQ ⟨[],2,4000⟩ w):=by
 have hs1:decide ((4000:Int)<(s.size:Int))=true:=by simp;omega
 go_enter Tryz.func21,Tryz.ntmps21;go_wp2_with fail
 go_step3
 go_wp2_with fail
 rw[Exit.noGoto_ret]
 go_ret3
 exact OB (f':=⟨[],2,4000⟩) rfl rfl (TT _ _) (Below.refl _ _)
def Gv (l:List UInt8):Found:=if 4000<l.length then⟨[],2,4000⟩else AV l 0
theorem QG1 (s:ByteArray) (w:World) (ht:Tabs w):Calls Tryz.prog 21 #[.string s] w (TQ (Gv s.data.toList) w):=by
 unfold Gv;have hl:s.data.toList.length=s.size:=by rw[Array.length_toList];rfl
 rw[hl];by_cases h:4000<s.size
 ·rw[if_pos h];exact QAv s w h
 ·rw[if_neg h];exact QC8 s w (by omega) ht.scans
theorem QAw {l:List UInt8} (h:(Gv l).err≠0):EN l=⟨noPg,(Gv l).err,(Gv l).pl⟩:=by
 unfold EN;unfold Gv at h⊢;split
 ·rfl
 ·rename_i hl
  rw[if_neg hl]at h;rw[if_neg h]
theorem QC9 {l:List UInt8} (h:(Gv l).err=0):l.length<=4000/\Gv l=AV l 0/\∃r,I8 (AV l 0).toks ((AV l 0).toks.length+1)=some r/\EN l=O8 r:=by
 unfold Gv at h⊢;by_cases hl:4000<l.length
 ·rw[if_pos hl]at h;exact absurd h (by decide)
 ·rw[if_neg hl]at h⊢;obtain⟨r,hr⟩:=Xb (AV l 0).toks;exact⟨by omega,rfl,r,hr,by unfold EN;rw[if_neg hl,if_pos h,hr];rfl⟩
def KT (v:ParsedP) (w:World) (e:Ending) (w':World):Prop:=∃pv:Pv,e=.returned (.tuple #[Hl pv,.int .i64 v.err,.int .i64 v.pl])/\B9 w' w.heap.size pv v.p/\Below w.heap.size w w'
structure QHP (w:World) (b:Nat) (p:Pv):Prop where
 lt:b<w.heap.size
 c0:w.cell? ⟨b,0,none⟩=some p.a
 c1:w.cell? ⟨b,1,none⟩=some p.b
 c2:w.cell? ⟨b,2,none⟩=some p.c
 c3:w.cell? ⟨b,3,none⟩=some p.d
 c4:w.cell? ⟨b,4,none⟩=some p.e
 c5:w.cell? ⟨b,5,none⟩=some p.f
 f0:w.frozen? ⟨b,0,none⟩=false
 f1:w.frozen? ⟨b,1,none⟩=false
 f2:w.frozen? ⟨b,2,none⟩=false
 f3:w.frozen? ⟨b,3,none⟩=false
 f4:w.frozen? ⟨b,4,none⟩=false
 f5:w.frozen? ⟨b,5,none⟩=false
def Jr (w:World) (b:Nat) (p:Pv):Prop:=w.heap[b]?=some (.cells #[p.a,p.b,p.c,p.d,p.e,p.f] 27 (0,0))
theorem AX {w:World} {b:Nat} {p:Pv} (h:Jr w b p):QHP w b p:=
 ⟨(Array.getElem?_eq_some_iff.1 h).1,by rw[Lib.cell_of_heap h];rfl,by rw[Lib.cell_of_heap h];rfl,by rw[Lib.cell_of_heap h];rfl,by rw[Lib.cell_of_heap h];rfl,by rw[Lib.cell_of_heap h];rfl,by rw[Lib.cell_of_heap h];rfl,
  Lib.frozen_of_heap h 0,Lib.frozen_of_heap h 1,Lib.frozen_of_heap h 2,Lib.frozen_of_heap h 3,Lib.frozen_of_heap h 4,Lib.frozen_of_heap h 5⟩
theorem Jr.on {w w':World} {b:Nat} {p:Pv} (h:Jr w b p) (hb:Below w.heap.size w w'):Jr w' b p:=by unfold Jr;rw[hb.block b (Array.getElem?_eq_some_iff.1 h).1];exact h
def JB (w:World) (b:Nat) (p:Pv):World:=(((((w.setCell ⟨b,0,none⟩ p.a).setCell ⟨b,1,none⟩ p.b).setCell ⟨b,2,none⟩ p.c).setCell ⟨b,3,none⟩ p.d).setCell ⟨b,4,none⟩ p.e).setCell ⟨b,5,none⟩ p.f
theorem Nu {w:World} {b:Nat} {p0:Pv} (h:Jr w b p0) (p:Pv):Jr (JB w b p) b p:=Af (Af (Af (Af (Af (Af h)))))
theorem KU (w:World) (b:Nat) (p:Pv):AG (fun q=>q=b) w (JB w b p):=Ag (Ag (Ag (Ag (Ag AG.set AG.set) AG.set) AG.set) AG.set) AG.set
theorem B9.forms {w:World} {B:Nat} {p:Pv} {P:Prg} (h:B9 w B p P):∃(A1:Option Addr) (n1 c1:Nat) (A2:Option Addr) (n2 c2:Nat) (A3:Option Addr) (n3 c3:Nat) (A4:Option Addr) (n4 c4:Nat) (A5:Option Addr) (n5 c5:Nat) (A6:Option Addr) (n6 c6:Nat),p=⟨.slice A1 n1 c1,.slice A2 n2 c2,.slice A3 n3 c3,.slice A4 n4 c4,.slice A5 n5 c5,.slice A6 n6 c6⟩:=by
 obtain⟨⟨_,h1,_⟩,h2,h3,⟨_,h4,_⟩,⟨_,h5,_⟩,⟨_,h6,_⟩⟩:=h;obtain⟨_,_,e1,_⟩:=AS h1.row;obtain⟨_,_,e2,_⟩:=AS h2;obtain⟨_,_,e3,_⟩:=AS h3;obtain⟨_,_,e4,_⟩:=AS h4.row;obtain⟨_,_,e5,_⟩:=AS h5.row;obtain⟨_,_,e6,_⟩:=AS h6.row;obtain⟨a,b,c,d,e,f⟩:=p;simp only at e1 e2 e3 e4 e5 e6;subst e1 e2 e3 e4 e5 e6;exact⟨_,_,_,_,_,_,_,_,_,_,_,_,_,_,_,_,_,_,rfl⟩
set_option maxRecDepth 100000 in
set_option maxHeartbeats 16000000 in
theorem Oh (s:ByteArray) (w:World) (ht:Tabs w):Calls Tryz.prog 10 #[.string s] w (KT (EN s.data.toList) w):=by
 have HT:=AA ht;clear ht;go_enter Tryz.func10,Tryz.ntmps10;go_wp2_with fail
 have hX0:=heap_alloc_new w (.cells #[.slice none 0 0,.slice none 0 0,.slice none 0 0,.slice none 0 0,.slice none 0 0,.slice none 0 0] 27);have hB0:Below w.heap.size w (w.alloc (.cells #[.slice none 0 0,.slice none 0 0,.slice none 0 0,.slice none 0 0,.slice none 0 0,.slice none 0 0] 27)):=(Below.refl _ _).alloc (Nat.le_refl _) _;obtain⟨b0,hb0⟩:∃b0,w.heap.size=b0:=⟨_,rfl⟩
 generalize w.alloc (.cells #[.slice none 0 0,.slice none 0 0,.slice none 0 0,.slice none 0 0,.slice none 0 0,.slice none 0 0] 27)=W at *;rw[hb0]at hX0⊢;have HX0:Hid (Jr W b0 noPv):=AA hX0;have HB0:=AA hB0;have HBZ:=AA hb0;clear hX0 hB0 hb0;refine(QG1 s W (HT.out.on HB0.out)).mono ?_;rintro e w1 ⟨lv,rfl,ho,hb1⟩;obtain⟨AL,nL,cL,rfl⟩:∃A n c,lv=.slice A n c:=by
  obtain⟨A,c,hv,_⟩:=AS ho;exact⟨A,_,c,hv⟩
 have HO:=AA ho;have HB1:=AA hb1;have HX1:Hid (Jr w1 b0 noPv):=AA (by unfold Jr;rw[hb1.block b0 (Array.getElem?_eq_some_iff.1 HX0.out).1];exact HX0.out);have HW1:Hid (Below w.heap.size w w1):=AA (HB0.out.trans (hb1.mono HB0.out.size));have HBW:Hid (w.heap.size<=b0):=AA (by have:=HBZ.out;omega);clear ho hb1;by_cases hv:(Gv s.data.toList).err=0
 ·obtain⟨hl,hsc,r,hr,hpv⟩:=QC9 hv;rw[hsc]at HO hv⊢;have HL:=AA hl;have HR:=AA hr;have HPV:=AA hpv;have HM:Hid ((AV s.data.toList 0).toks.length<=10000/\Gf (AV s.data.toList 0).toks/\CE (AV s.data.toList 0).toks):=AA ⟨by have:=(QR s.data.toList).1;omega,Wp hl,V7 _⟩;rw[hv];have hne0:((0:Int) != 0)=false:=by decide
  generalize(AV s.data.toList 0).toks=M at *;generalize((AV s.data.toList 0).pl:Int)=pl0 at *;clear hl hr hpv hsc hv;go_wp2_with fail
  obtain⟨g,hg⟩:∃g,w1.heap.size=g:=⟨_,rfl⟩
  have hG:=heap_alloc_new w1 (.cells #[.slice AL nL cL,.int .i64 0,.slice none 0 0,.slice none 0 0,.slice none 0 0,.slice none 0 0,.slice none 0 0,.slice none 0 0,.int .i64 0] 58);have hBG:Below w1.heap.size w1 (w1.alloc (.cells #[.slice AL nL cL,.int .i64 0,.slice none 0 0,.slice none 0 0,.slice none 0 0,.slice none 0 0,.slice none 0 0,.slice none 0 0,.int .i64 0] 58)):=(Below.refl _ _).alloc (Nat.le_refl _) _;rw[hg]at hG⊢;generalize w1.alloc (.cells #[.slice AL nL cL,.int .i64 0,.slice none 0 0,.slice none 0 0,.slice none 0 0,.slice none 0 0,.slice none 0 0,.slice none 0 0,.int .i64 0] 58)=w2 at *
  have hgw:g<w2.heap.size:=(Array.getElem?_eq_some_iff.1 hG).1;have HS:Hid (S5 M W.heap.size g (.slice AL nL cL) 0 noPv w2):=AA ⟨⟨0,hG⟩,AO HO.out (AG.of (P:=fun _=>False) hBG) (fun _ _=>id),HT.out.on (HW1.out.trans (hBG.mono HW1.out.size)),by have:=HT.out.lt2;have:=HW1.out.size;omega,by have:=HT.out.lt2;have:=HB0.out.size;omega,HM.out.1,HM.out.2.1,Nat.zero_le _⟩;have HX2:Hid (Jr w2 b0 noPv):=AA (by unfold Jr;rw[hBG.block b0 (Array.getElem?_eq_some_iff.1 HX1.out).1];exact HX1.out);have HW2:Hid (Below w.heap.size w w2):=AA (HW1.out.trans (hBG.mono HW1.out.size))
  have HLN:Hid (∀q,(Value.slice AL nL cL).ownBlock=some q->q<w2.heap.size):=AA (fun q hq=>by
   have h1:=(Array.getElem?_eq_some_iff.1 (AI HO.out q hq).2.choose_spec).1;omega)
  have HGB:Hid (w.heap.size<=g):=AA (by have:=HW1.out.size;omega);have HCA:=AA (QHO HS.out HM.out.2.2 hgw HLN.out (Nat.le_refl _) rfl HR.out);have hb0g:¬b0=g:=by
   have:=(Array.getElem?_eq_some_iff.1 HX1.out).1;omega
  have HTC:Hid (¬Ko g (.slice AL nL cL) w2.heap.size b0):=AA (by
   rintro(e|e|e)
   ·exact hb0g e
   ·obtain⟨_,cs,hh⟩:=AI HS.out.toks b0 e;have:=HX2.out;unfold Jr at this;rw[this]at hh;simp at hh
   ·have:=(Array.getElem?_eq_some_iff.1 HX2.out).1;omega)
  clear hG hBG hg;go_wp2_with fail
  refine HCA.out.mono ?_;rintro e w3 ⟨hk3,hp⟩;have HX3:Hid (Jr w3 b0 noPv):=AA (by unfold Jr;rw[hk3.block b0 (Array.getElem?_eq_some_iff.1 HX2.out).1 HTC.out];exact HX2.out);have HB3:Hid (Below w.heap.size w w3):=AA (HW2.out.trans (hk3.below (fun q hq hh=>by
   rcases hh with e|e|e
   ·have:=HGB.out;omega
   ·have h1:=(AI HO.out q e).1;have:=HB0.out.size;omega
   ·have:=HW2.out.size;omega) HW2.out.size))
  have HBB:Hid (w.heap.size<=w2.heap.size):=AA HW2.out.size;obtain⟨l0,z0,z1,z2,z3,z4,z5,y0,y1,y2,y3,y4,y5⟩:=AX HX3.out;clear hk3;cases r with
  |bad er q=>
   obtain⟨rfl,hne,i3,p3,hb3⟩:=hp;have hne2:(er != 0)=true:=by simp[hne]
   obtain⟨hg3, -, -, -, -, -, -, -, -,c8, -⟩:=hb3.cells;have HRR:Hid (EN s.data.toList=⟨noPg,er,q⟩):=AA HPV.out;clear hb3 hne;go_wp2_with fail
   go_region
   go_wp2_with fail
   have h3:Jr (JB w3 b0 noPv).drew b0 noPv:=(Nu HX3.out noPv).on (AD _);have hk3:AG (fun q=>q=b0) w3 (JB w3 b0 noPv).drew:=AT (KU w3 b0 noPv) (AD _);rw[show((((((w3.setCell ⟨b0,0,none⟩ (.slice none 0 0)).setCell ⟨b0,1,none⟩ (.slice none 0 0)).setCell ⟨b0,2,none⟩ (.slice none 0 0)).setCell ⟨b0,3,none⟩ (.slice none 0 0)).setCell ⟨b0,4,none⟩ (.slice none 0 0)).setCell ⟨b0,5,none⟩ (.slice none 0 0))=JB w3 b0 noPv from rfl];generalize(JB w3 b0 noPv).drew=W3 at *;obtain⟨_,x0,x1,x2,x3,x4,x5, -, -, -, -, -, -⟩:=AX h3
   refine bodyPost_ret (v:=.tuple #[Hl noPv,.int .i64 er,.int .i64 q]) (by simp[results,Tryz.results10,go_sem,x0,x1,x2,x3,x4,x5,Hl]) rfl ?_;exact⟨noPv,by rw[HRR.out],by rw[HRR.out];exact Ji _ _,HB3.out.trans (hk3.below (fun q hq e=>by have:=HBW.out;omega) HB3.out.size)⟩
  |ok P m=>
   obtain⟨rfl,i3,q3,p3,hb3,hop⟩:=hp;have HOP:=AA hop;obtain⟨hg3, -, -,c2,c3,c4,c5,c6,c7, -, -⟩:=hb3.cells;have HRR:Hid (EN s.data.toList=⟨P,0,0⟩):=AA HPV.out;obtain⟨A1,n1,m1,A2,n2,m2,A3,n3,m3,A4,n4,m4,A5,n5,m5,A6,n6,m6,rfl⟩:=hop.forms;simp only at c2 c3 c4 c5 c6 c7;clear hb3 hop;go_wp2_with fail
   have h3:Jr (JB w3 b0 ⟨.slice A1 n1 m1,.slice A2 n2 m2,.slice A3 n3 m3,.slice A4 n4 m4,.slice A5 n5 m5,.slice A6 n6 m6⟩) b0 ⟨.slice A1 n1 m1,.slice A2 n2 m2,.slice A3 n3 m3,.slice A4 n4 m4,.slice A5 n5 m5,.slice A6 n6 m6⟩:=Nu HX3.out _;have hk3:AG (fun q=>q=b0) w3 (JB w3 b0 ⟨.slice A1 n1 m1,.slice A2 n2 m2,.slice A3 n3 m3,.slice A4 n4 m4,.slice A5 n5 m5,.slice A6 n6 m6⟩):=KU w3 b0 _
   rw[show((((((w3.setCell ⟨b0,0,none⟩ (.slice A1 n1 m1)).setCell ⟨b0,1,none⟩ (.slice A2 n2 m2)).setCell ⟨b0,2,none⟩ (.slice A3 n3 m3)).setCell ⟨b0,3,none⟩ (.slice A4 n4 m4)).setCell ⟨b0,4,none⟩ (.slice A5 n5 m5)).setCell ⟨b0,5,none⟩ (.slice A6 n6 m6))=JB w3 b0 ⟨.slice A1 n1 m1,.slice A2 n2 m2,.slice A3 n3 m3,.slice A4 n4 m4,.slice A5 n5 m5,.slice A6 n6 m6⟩from rfl]
   have hop2:B9 (JB w3 b0 ⟨.slice A1 n1 m1,.slice A2 n2 m2,.slice A3 n3 m3,.slice A4 n4 m4,.slice A5 n5 m5,.slice A6 n6 m6⟩) w.heap.size ⟨.slice A1 n1 m1,.slice A2 n2 m2,.slice A3 n3 m3,.slice A4 n4 m4,.slice A5 n5 m5,.slice A6 n6 m6⟩ P:=(HOP.out.base HBB.out).keepT hk3 (fun q cs T hB hh hT e=>by
    have h1:=HX3.out;unfold Jr at h1;rw[e,h1]at hh;simp only[Option.some.injEq,Obj.cells.injEq]at hh;rw[<-hh.2.1]at hT;simp at hT)
   generalize JB w3 b0 ⟨.slice A1 n1 m1,.slice A2 n2 m2,.slice A3 n3 m3,.slice A4 n4 m4,.slice A5 n5 m5,.slice A6 n6 m6⟩=W3 at *;obtain⟨_,x0,x1,x2,x3,x4,x5, -, -, -, -, -, -⟩:=AX h3;refine bodyPost_ret (v:=.tuple #[Hl ⟨.slice A1 n1 m1,.slice A2 n2 m2,.slice A3 n3 m3,.slice A4 n4 m4,.slice A5 n5 m5,.slice A6 n6 m6⟩,.int .i64 0,.int .i64 0]) (by simp[results,Tryz.results10,go_sem,x0,x1,x2,x3,x4,x5,Hl]) rfl ?_;exact⟨⟨.slice A1 n1 m1,.slice A2 n2 m2,.slice A3 n3 m3,.slice A4 n4 m4,.slice A5 n5 m5,.slice A6 n6 m6⟩,by rw[HRR.out],by rw[HRR.out];exact hop2,HB3.out.trans (hk3.below (fun q hq e=>by have:=HBW.out;omega) HB3.out.size)⟩
 ·have HPV:=AA (QAw hv);have hne2:((Gv s.data.toList).err != 0)=true:=by simp[hv]
  obtain⟨l0,z0,z1,z2,z3,z4,z5,y0,y1,y2,y3,y4,y5⟩:=AX HX1.out;generalize(Gv s.data.toList).err=er at *;generalize((Gv s.data.toList).pl:Int)=pl0 at *;clear hv;go_wp2_with fail
  have h3:=Nu HX1.out noPv;have hk3:=KU w1 b0 noPv;rw[show((((((w1.setCell ⟨b0,0,none⟩ (.slice none 0 0)).setCell ⟨b0,1,none⟩ (.slice none 0 0)).setCell ⟨b0,2,none⟩ (.slice none 0 0)).setCell ⟨b0,3,none⟩ (.slice none 0 0)).setCell ⟨b0,4,none⟩ (.slice none 0 0)).setCell ⟨b0,5,none⟩ (.slice none 0 0))=JB w1 b0 noPv from rfl];generalize JB w1 b0 noPv=W3 at *;obtain⟨_,x0,x1,x2,x3,x4,x5, -, -, -, -, -, -⟩:=AX h3;refine bodyPost_ret (v:=.tuple #[Hl noPv,.int .i64 er,.int .i64 pl0]) (by simp[results,Tryz.results10,go_sem,x0,x1,x2,x3,x4,x5,Hl]) rfl ?_
  refine⟨noPv,by rw[HPV.out],by rw[HPV.out];exact Ji _ _,HW1.out.trans (hk3.below (fun q hq e=>by have:=HBW.out;omega) HW1.out.size)⟩
end Go.Proofs.YthfkpalfopdmhaaGreatDoor
namespace Go.Proofs.YthfkpalfopdmhaaGreatDoor
open Go.RowKit
theorem Rf (P:Prg):BH P=(P.lines.all EJ&&(P.vols.all (A9 BW)&&(P.locks.all (A9 0)&&(P.threads.all (Bv true)&&(decide (P.recs.length<=1)&&(P.recs.all (Bv false)&&P.claims.all Eo)))))):=by
 unfold BH;cases P.lines.all EJ<;>cases P.vols.all (A9 BW)<;>cases P.locks.all (A9 0)<;>cases P.threads.all (Bv true)<;>cases P.recs.all (Bv false)<;>cases P.claims.all Eo<;>cases decide (P.recs.length<=1)<;>rfl
section
variable {w:World} {B:Nat} {v:Value}
theorem QDA {l:List (List Cel)} (h:Iq w B v l) (hn:l.length<=10000) (hs:∀x∈l,x.length<=10000/\∀c∈x,Dt c):Calls Tryz.prog 42 #[v,.func (.func 43) #[] #[]] w (AK (l.all EJ) w):=by
 obtain⟨K,hK,rfl⟩:=h;have:=QEp (I9 Tryz.func43 (by kernel_rfl) rfl) EJ hK (by rw[List.length_map]at hn;omega) (fun x hx w' hb=>QGK ((hK.on hb).sub x hx) (hs x.l (List.mem_map_of_mem hx)).1 (hs x.l (List.mem_map_of_mem hx)).2);rw[List.all_map];exact this
theorem QDB {l:List Cel} (h:Bw w B v l) (hn:l.length<=10000) (hs:∀c∈l,Dt c):Calls Tryz.prog 44 #[v,.func (.func 45) #[] #[]] w (AK (l.all (A9 BW)) w):=
 UR (I9 Tryz.func45 (by kernel_rfl) rfl) (A9 BW) h (by omega) (fun x hx w' _=>Xj x w' (hs x hx))
theorem QDC {l:List Cel} (h:Bw w B v l) (hn:l.length<=10000) (hs:∀c∈l,Dt c):Calls Tryz.prog 44 #[v,.func (.func 46) #[] #[]] w (AK (l.all (A9 0)) w):=
 UR (I9 Tryz.func46 (by kernel_rfl) rfl) (A9 0) h (by omega) (fun x hx w' _=>QGJ x w' (hs x hx))
theorem Xw {l:List Thr} (h:EV w B v l) (ht:Tabs w) (hn:l.length<=10000) (hs:∀c∈l,DX c):Calls Tryz.prog 47 #[v,.func (.func 48) #[] #[]] w (AK (l.all (Bv true)) w):=by
 obtain⟨K,hK,rfl⟩:=h;have:=Yb (I9 Tryz.func48 (by kernel_rfl) rfl) (Bv true) hK (by rw[List.length_map]at hn;omega) (fun x hx w' hb=>QCk ((hK.on hb).sub x hx).1 ((hK.on hb).sub x hx).2 (hs x.t (List.mem_map_of_mem hx)) (ht.on hb));rw[List.all_map];exact this
theorem QE7 {l:List Thr} (h:EV w B v l) (ht:Tabs w) (hn:l.length<=10000) (hs:∀c∈l,DX c):Calls Tryz.prog 47 #[v,.func (.func 49) #[] #[]] w (AK (l.all (Bv false)) w):=by
 obtain⟨K,hK,rfl⟩:=h;have:=Yb (I9 Tryz.func49 (by kernel_rfl) rfl) (Bv false) hK (by rw[List.length_map]at hn;omega) (fun x hx w' hb=>QE0 ((hK.on hb).sub x hx).1 ((hK.on hb).sub x hx).2 (hs x.t (List.mem_map_of_mem hx)) (ht.on hb));rw[List.all_map];exact this
theorem QAx {l:List Clm} (h:Ir w B v l) (hn:l.length<=10000) (hs:∀c∈l,Jq c):Calls Tryz.prog 50 #[v,.func (.func 51) #[] #[]] w (AK (l.all Eo) w):=by
 obtain⟨K,hK,rfl⟩:=h;have:=QEu (I9 Tryz.func51 (by kernel_rfl) rfl) Eo hK (by rw[List.length_map]at hn;omega) (fun x hx w' hb=>QE1 ((hK.on hb).sub x hx) (hs x.c (List.mem_map_of_mem hx)));rw[List.all_map];exact this
end
theorem Js (w:World) (a b c d e f:Value):Jr (w.alloc (.cells #[a,b,c,d,e,f] 27)) w.heap.size ⟨a,b,c,d,e,f⟩:=heap_alloc_new w _
set_option maxRecDepth 100000 in
set_option maxHeartbeats 8000000 in
theorem RJ {w:World} {B:Nat} {v:Pv} {P:Prg} (h:B9 w B v P) (hs:GU P) (ht:Tabs w):Calls Tryz.prog 16 #[Hl v] w (AK (BH P) w):=by
 obtain⟨A1,n1,m1,A2,n2,m2,A3,n3,m3,A4,n4,m4,A5,n5,m5,A6,n6,m6,rfl⟩:=h.forms;have HP:=AA h;have HS:=AA hs;have HT:=AA ht;have HRP:=AA (Rf P);have hn5:n5=P.recs.length:=by
  obtain⟨K,hK,hm⟩:=h.recs;obtain⟨A,c,hv,_⟩:=AS hK.row;simp only[Value.slice.injEq]at hv;rw[hv.2.1,<-hm,List.length_map]
 obtain⟨q1,hq1⟩:∃q,P.lines.all EJ=q:=⟨_,rfl⟩
 obtain⟨q2,hq2⟩:∃q,P.vols.all (A9 BW)=q:=⟨_,rfl⟩
 obtain⟨q3,hq3⟩:∃q,P.locks.all (A9 0)=q:=⟨_,rfl⟩
 obtain⟨q4,hq4⟩:∃q,P.threads.all (Bv true)=q:=⟨_,rfl⟩
 obtain⟨q5,hq5⟩:∃q,decide (P.recs.length<=1)=q:=⟨_,rfl⟩
 obtain⟨q6,hq6⟩:∃q,P.recs.all (Bv false)=q:=⟨_,rfl⟩
 obtain⟨q7,hq7⟩:∃q,P.claims.all Eo=q:=⟨_,rfl⟩
 rw[hq1,hq2,hq3,hq4,hq5,hq6,hq7]at HRP;have HQ1:=AA hq1;have HQ2:=AA hq2;have HQ3:=AA hq3;have HQ4:=AA hq4;have HQ6:=AA hq6;have HQ7:=AA hq7;have hd5:decide ((n5:Int)<=1)=q5:=by
  rw[<-hq5,hn5,Bool.eq_iff_iff];simp;omega
 have HD5:=AA hd5;have HB0:Hid (Below w.heap.size w (w.alloc (.cells #[.slice A1 n1 m1,.slice A2 n2 m2,.slice A3 n3 m3,.slice A4 n4 m4,.slice A5 n5 m5,.slice A6 n6 m6] 27))):=AA ((Below.refl _ _).alloc (Nat.le_refl _) _);have HX:=AA (Js w (.slice A1 n1 m1) (.slice A2 n2 m2) (.slice A3 n3 m3) (.slice A4 n4 m4) (.slice A5 n5 m5) (.slice A6 n6 m6));clear h hs ht hq1 hq2 hq3 hq4 hq5 hq6 hq7 hn5 hd5;unfold Hl;go_enter Tryz.func16,Tryz.ntmps16;go_wp2_with fail
 obtain⟨b,hb⟩:∃b,w.heap.size=b:=⟨_,rfl⟩
 rw[hb]at HX⊢;generalize w.alloc (.cells #[.slice A1 n1 m1,.slice A2 n2 m2,.slice A3 n3 m3,.slice A4 n4 m4,.slice A5 n5 m5,.slice A6 n6 m6] 27)=w0 at *;clear hb;have HC:Hid (Calls Tryz.prog 42 #[.slice A1 n1 m1,.func (.func 43) #[] #[]] w0 (AK q1 w0)):=AA (by rw[<-HQ1.out];exact QDA (HP.out.on HB0.out).lines HS.out.nl HS.out.lines);obtain⟨l,z0,z1,z2,z3,z4,z5, -, -, -, -, -, -⟩:=AX HX.out;go_wp2_with fail
 refine HC.out.mono ?_;rintro e w1 ⟨rfl,hb⟩;replace HX:=AA (HX.out.on hb);replace HB0:=AA (AC HB0.out hb);clear hb HC l z0 z1 z2 z3 z4 z5;cases q1 with
 |false=>
  go_wp2_with fail
  go_ret;exact⟨AH (by rw[HRP.out];simp),HB0.out⟩
 |true=>
  have HC:Hid (Calls Tryz.prog 44 #[.slice A2 n2 m2,.func (.func 45) #[] #[]] w1 (AK q2 w1)):=AA (by rw[<-HQ2.out];exact QDB (HP.out.on HB0.out).vols HS.out.nv HS.out.vols);obtain⟨l,z0,z1,z2,z3,z4,z5, -, -, -, -, -, -⟩:=AX HX.out;go_wp2_with fail
  refine HC.out.mono ?_;rintro e w2 ⟨rfl,hb⟩;replace HX:=AA (HX.out.on hb);replace HB0:=AA (AC HB0.out hb);clear hb HC l z0 z1 z2 z3 z4 z5;cases q2 with
  |false=>
   go_wp2_with fail
   go_ret;exact⟨AH (by rw[HRP.out];simp),HB0.out⟩
  |true=>
   have HC:Hid (Calls Tryz.prog 44 #[.slice A3 n3 m3,.func (.func 46) #[] #[]] w2 (AK q3 w2)):=AA (by rw[<-HQ3.out];exact QDC (HP.out.on HB0.out).locks HS.out.nk HS.out.locks);obtain⟨l,z0,z1,z2,z3,z4,z5, -, -, -, -, -, -⟩:=AX HX.out;go_wp2_with fail
   refine HC.out.mono ?_;rintro e w3 ⟨rfl,hb⟩;replace HX:=AA (HX.out.on hb);replace HB0:=AA (AC HB0.out hb);clear hb HC l z0 z1 z2 z3 z4 z5;cases q3 with
   |false=>
    go_wp2_with fail
    go_ret;exact⟨AH (by rw[HRP.out];simp),HB0.out⟩
   |true=>
    have HC:Hid (Calls Tryz.prog 47 #[.slice A4 n4 m4,.func (.func 48) #[] #[]] w3 (AK q4 w3)):=AA (by rw[<-HQ4.out];exact Xw (HP.out.on HB0.out).threads (HT.out.on HB0.out) HS.out.nt HS.out.threads);obtain⟨l,z0,z1,z2,z3,z4,z5, -, -, -, -, -, -⟩:=AX HX.out;go_wp2_with fail
    refine HC.out.mono ?_;rintro e w4 ⟨rfl,hb⟩;replace HX:=AA (HX.out.on hb);replace HB0:=AA (AC HB0.out hb);clear hb HC l z0 z1 z2 z3 z4 z5;cases q4 with
    |false=>
     go_wp2_with fail
     go_ret;exact⟨AH (by rw[HRP.out];simp),HB0.out⟩
    |true=>
     cases q5 with
     |false=>
      have hl5:¬(n5:Int)<=1:=by have:=HD5.out;simpa using this
      obtain⟨l, -, -, -, -,z4, -, -, -, -, -, -, -⟩:=AX HX.out;go_wp2_with fail
      go_ret;exact⟨AH (by rw[HRP.out];simp),HB0.out⟩
     |true=>
      have hl5:(n5:Int)<=1:=by have:=HD5.out;simpa using this
      have HC:Hid (Calls Tryz.prog 47 #[.slice A5 n5 m5,.func (.func 49) #[] #[]] w4 (AK q6 w4)):=AA (by rw[<-HQ6.out];exact QE7 (HP.out.on HB0.out).recs (HT.out.on HB0.out) HS.out.nr HS.out.recs);obtain⟨l,z0,z1,z2,z3,z4,z5, -, -, -, -, -, -⟩:=AX HX.out;go_wp2_with fail
      refine HC.out.mono ?_;rintro e w5 ⟨rfl,hb⟩;replace HX:=AA (HX.out.on hb);replace HB0:=AA (AC HB0.out hb);clear hb HC l z0 z1 z2 z3 z4 z5;cases q6 with
      |false=>
       go_wp2_with fail
       go_ret;exact⟨AH (by rw[HRP.out];simp),HB0.out⟩
      |true=>
       have HC:Hid (Calls Tryz.prog 50 #[.slice A6 n6 m6,.func (.func 51) #[] #[]] w5 (AK q7 w5)):=AA (by rw[<-HQ7.out];exact QAx (HP.out.on HB0.out).claims HS.out.nc HS.out.claims);obtain⟨l,z0,z1,z2,z3,z4,z5, -, -, -, -, -, -⟩:=AX HX.out;go_wp2_with fail
       refine HC.out.mono ?_;rintro e w6 ⟨rfl,hb⟩;replace HX:=AA (HX.out.on hb);replace HB0:=AA (AC HB0.out hb);clear hb HC l z0 z1 z2 z3 z4 z5;go_wp2_with fail
       go_ret;exact⟨AH (by rw[HRP.out];simp),HB0.out⟩
end Go.Proofs.YthfkpalfopdmhaaGreatDoor
namespace Go.Proofs.YthfkpalfopdmhaaGreatDoor
open Go.RowKit
theorem Gx {α β:Type} (f:α->β) (q:β->β->Bool):∀(K M:List α),Ae (fun a b=>q (f a) (f b)) K M=Ae q (K.map f) (M.map f)
 |[],[]=>rfl
 |[],_::_=>rfl
 |_::_,[]=>rfl
 |a::l,b::m=>by simp only[Ae,List.map_cons,Gx f q l m]
set_option maxRecDepth 100000 in
set_option maxHeartbeats 4000000 in
theorem Uj {K M:List Cel} {v1 v2:Value} {w:World} {B1 B2:Nat} (h1:Bw w B1 v1 K) (h2:Bw w B2 v2 M) (hl:K.length<=10000):Calls Tryz.prog 66 #[v1,v2] w (AK (Ae (CG false) K M) w):=by
 have HC:=AA (eqC (CG false) h1 h2 hl (fun a _ b _ w' _=>QGj a b w'));clear h1 h2;go_enter Tryz.func66,Tryz.ntmps66;go_wp2_with fail
 refine HC.out.mono ?_;rintro e w1 ⟨rfl,hb⟩;have HB:=AA hb;clear hb;go_wp2_with fail
 go_ret;exact⟨rfl,HB.out⟩
theorem WC (a b:Thr):CH false a b=(a.name==b.name&&(Ot a.regs b.regs&&MG false a.body b.body)):=by unfold CH;simp[Bool.and_assoc]
set_option maxRecDepth 100000 in
set_option maxHeartbeats 4000000 in
theorem QDX (a b:Thr) {vR vB uR uB:Value} {w:World} {B1 B2:Nat} (hR:CS w B1 vR a.regs) (hB:Ec w B1 vB a.body) (kR:CS w B2 uR b.regs) (kB:Ec w B2 uB b.body) (hs:DX a):
  Calls Tryz.prog 68 #[.agg #[.string ⟨a.name.toArray⟩,vR,vB,.int .i64 a.pl],.agg #[.string ⟨b.name.toArray⟩,uR,uB,.int .i64 b.pl]] w (AK (CH false a b) w):=by
 obtain⟨nr,hr,nb,hbs,hbl⟩:=hs;have HV:=AA (WC a b);have HR:=AA hR;have HBd:=AA hB;have KR:=AA kR;have KB:=AA kB;have HS:=AA (And.intro nb (And.intro hbs hbl));obtain⟨AR,cR,rfl, -, -, -⟩:=hR.reads;obtain⟨AB,cB,rfl⟩:=hB.slice;obtain⟨BR,dR,rfl, -, -, -⟩:=kR.reads;obtain⟨BB,dB,rfl⟩:=kB.slice;clear hR hB kR kB nr hr nb hbs hbl;have HB1:=AA ((Below.refl w.heap.size w).alloc (Nat.le_refl _) (.cells #[.string ⟨a.name.toArray⟩,.slice AR a.regs.length cR,.slice AB a.body.length cB,.int .i64 a.pl] 41))
 have N1:=AA (LO w (.string ⟨a.name.toArray⟩) (.slice AR a.regs.length cR) (.slice AB a.body.length cB) (.int .i64 a.pl) 41);go_enter Tryz.func68,Tryz.ntmps68;go_upto_region 1 with(fail)
 have hz:w.heap.size+1=(w.alloc (.cells #[.string ⟨a.name.toArray⟩,.slice AR a.regs.length cR,.slice AB a.body.length cB,.int .i64 a.pl] 41)).heap.size:=by simp
 rw[hz];generalize w.alloc (.cells #[.string ⟨a.name.toArray⟩,.slice AR a.regs.length cR,.slice AB a.body.length cB,.int .i64 a.pl] 41)=X at *;have HB2:=AA ((Below.refl X.heap.size X).alloc (Nat.le_refl _) (.cells #[.string ⟨b.name.toArray⟩,.slice BR b.regs.length dR,.slice BB b.body.length dB,.int .i64 b.pl] 41));have N2:=AA (LO X (.string ⟨b.name.toArray⟩) (.slice BR b.regs.length dR) (.slice BB b.body.length dB) (.int .i64 b.pl) 41);have N1':=AA (N1.out.on HB2.out);generalize X.alloc (.cells #[.string ⟨b.name.toArray⟩,.slice BR b.regs.length dR,.slice BB b.body.length dB,.int .i64 b.pl] 41)=Y at *;have HB:=AA (AC HB1.out HB2.out)
 clear N1 HB1 HB2 hz;obtain⟨_,a0,a1,a2,a3⟩:=N1'.out;obtain⟨_,b0,b1,b2,b3⟩:=N2.out;cases e1:(a.name==b.name)with
 |false=>
  have HN:Hid (CH false a b=false):=AA (by rw[HV.out,e1];rfl);go_wp2_with fail
  go_ret;exact⟨AH HN.out.symm,HB.out⟩
 |true=>
  go_wp2_with fail
  refine(eqR (HR.out.on HB.out) (KR.out.on HB.out) HS.out.1).mono ?_;cases e2:Ot a.regs b.regs with
  |false=>
   have HN:Hid (CH false a b=false):=AA (by rw[HV.out,e2];simp);rintro e w1 ⟨rfl,hb1⟩;have HC:=AA (AC HB.out hb1);clear hb1;go_wp2_with fail
   go_ret;exact⟨AH HN.out.symm,HC.out⟩
  |true=>
   have HN:Hid (CH false a b=MG false a.body b.body):=AA (by rw[HV.out,e1,e2];rfl);rintro e w1 ⟨rfl,hb1⟩;have HC:=AA (AC HB.out hb1);have HD:=AA hb1;clear hb1 a0 a1 a2 a3 b0 b1 b2 b3;obtain⟨_,a0,a1,a2,a3⟩:=N1'.out.on HD.out;obtain⟨_,b0,b1,b2,b3⟩:=N2.out.on HD.out;go_wp2_with fail
   refine(Z7 _ _ a.body b.body _ (HBd.out.read.on HC.out) (KB.out.read.on HC.out) HS.out.2.2 HS.out.2.1).mono ?_;rintro e w2 ⟨rfl,hb2⟩;have HC2:=AA (AC HC.out hb2);clear hb2;go_wp2_with fail
   go_ret;exact⟨AH HN.out.symm,HC2.out⟩
set_option maxRecDepth 100000 in
set_option maxHeartbeats 4000000 in
theorem QFL (a b:Clm) {vE uE:Value} {w:World} {B1 B2:Nat} (hE:B0 B1 w vE a.e) (kE:B0 B2 w uE b.e) (hs:Jq a):
  Calls Tryz.prog 70 #[.agg #[vE,.int .i64 a.pl],.agg #[uE,.int .i64 b.pl]] w (AK (GT false a b) w):=by
 have HV:Hid (GT false a b=E9 false a.e b.e):=AA (by unfold GT;simp);have HE:=AA hE.rd;have KE:=AA kE.rd;have HS:=AA hs.2;obtain⟨A,c,rfl, -⟩:=hE.rd;obtain⟨A',c',rfl, -⟩:=kE.rd;clear hE kE hs;go_enter Tryz.func70,Tryz.ntmps70;go_wp2_with fail
 refine(QC _ _ a.e b.e _ (HE.out.on (A7 _ _ _)) (KE.out.on (A7 _ _ _)) HS.out).mono ?_;rintro e w1 ⟨rfl,hb⟩;have HB:=AA (AC (A7 w _ _) hb);clear hb;go_wp2_with fail
 go_ret;exact⟨AH HV.out.symm,HB.out⟩
section
variable {w:World} {B1 B2:Nat} {v1 v2:Value}
theorem QFM {K M:List (List Cel)} (h1:Iq w B1 v1 K) (h2:Iq w B2 v2 M) (hn:K.length<=10000) (hl:∀l∈K,l.length<=10000):Calls Tryz.prog 65 #[v1,v2,.func (.func 66) #[] #[]] w (AK (Ae (Ae (CG false)) K M) w):=by
 obtain⟨K',hK,rfl⟩:=h1;obtain⟨M',hM,rfl⟩:=h2;rw[<-Gx (fun x:Lv=>x.l) (Ae (CG false)) K' M'];exact eqL _ hK hM (by rw[List.length_map]at hn;omega) (fun a ha b hb w' hw=>Uj ((hK.on hw).sub a ha) ((hM.on hw).sub b hb) (hl _ (List.mem_map_of_mem ha)))
theorem TE {K M:List Thr} (h1:EV w B1 v1 K) (h2:EV w B2 v2 M) (hn:K.length<=10000) (hl:∀l∈K,DX l):Calls Tryz.prog 67 #[v1,v2,.func (.func 68) #[] #[]] w (AK (Ae (CH false) K M) w):=by
 obtain⟨K',hK,rfl⟩:=h1;obtain⟨M',hM,rfl⟩:=h2;rw[<-Gx (fun x:Tv=>x.t) (CH false) K' M'];exact eqT _ hK hM (by rw[List.length_map]at hn;omega) (fun a ha b hb w' hw=>QDX a.t b.t ((hK.on hw).sub a ha).1 ((hK.on hw).sub a ha).2 ((hM.on hw).sub b hb).1 ((hM.on hw).sub b hb).2 (hl _ (List.mem_map_of_mem ha)))
theorem QDY {K M:List Clm} (h1:Ir w B1 v1 K) (h2:Ir w B2 v2 M) (hn:K.length<=10000) (hl:∀l∈K,Jq l):Calls Tryz.prog 69 #[v1,v2,.func (.func 70) #[] #[]] w (AK (Ae (GT false) K M) w):=by
 obtain⟨K',hK,rfl⟩:=h1;obtain⟨M',hM,rfl⟩:=h2;rw[<-Gx (fun x:Cv=>x.c) (GT false) K' M'];exact eqM _ hK hM (by rw[List.length_map]at hn;omega) (fun a ha b hb w' hw=>QFL a.c b.c ((hK.on hw).sub a ha) ((hM.on hw).sub b hb) (hl _ (List.mem_map_of_mem ha)))
end
theorem Uk (P Q:Prg):KL false P Q=(Ae (Ae (CG false)) P.lines Q.lines&&(Ae (CG false) P.vols Q.vols&&(Ae (CG false) P.locks Q.locks&&(Ae (CH false) P.threads Q.threads&&(Ae (CH false) P.recs Q.recs&&Ae (GT false) P.claims Q.claims))))):=by
 unfold KL;simp only[Bool.and_assoc]
set_option maxRecDepth 100000 in
set_option maxHeartbeats 8000000 in
theorem QFl {w:World} {B1 B2:Nat} {v u:Pv} {P Q:Prg} (h:B9 w B1 v P) (k:B9 w B2 u Q) (hs:GU P):Calls Tryz.prog 20 #[Hl v,Hl u] w (AK (KL false P Q) w):=by
 obtain⟨A1,n1,m1,A2,n2,m2,A3,n3,m3,A4,n4,m4,A5,n5,m5,A6,n6,m6,rfl⟩:=h.forms;obtain⟨B1,p1,r1,B2,p2,r2,B3,p3,r3,B4,p4,r4,B5,p5,r5,B6,p6,r6,rfl⟩:=k.forms;have HP:=AA h;have HK:=AA k;have HS:=AA hs;have HRP:=AA (Uk P Q);obtain⟨q1,hq1⟩:∃q,Ae (Ae (CG false)) P.lines Q.lines=q:=⟨_,rfl⟩
 obtain⟨q2,hq2⟩:∃q,Ae (CG false) P.vols Q.vols=q:=⟨_,rfl⟩
 obtain⟨q3,hq3⟩:∃q,Ae (CG false) P.locks Q.locks=q:=⟨_,rfl⟩
 obtain⟨q4,hq4⟩:∃q,Ae (CH false) P.threads Q.threads=q:=⟨_,rfl⟩
 obtain⟨q5,hq5⟩:∃q,Ae (CH false) P.recs Q.recs=q:=⟨_,rfl⟩
 obtain⟨q6,hq6⟩:∃q,Ae (GT false) P.claims Q.claims=q:=⟨_,rfl⟩
 rw[hq1,hq2,hq3,hq4,hq5,hq6]at HRP;have HQ1:=AA hq1;have HQ2:=AA hq2;have HQ3:=AA hq3;have HQ4:=AA hq4;have HQ5:=AA hq5;have HQ6:=AA hq6;have HB1:Hid (Below w.heap.size w (w.alloc (.cells #[.slice A1 n1 m1,.slice A2 n2 m2,.slice A3 n3 m3,.slice A4 n4 m4,.slice A5 n5 m5,.slice A6 n6 m6] 27))):=AA ((Below.refl _ _).alloc (Nat.le_refl _) _);have N1:=AA (Js w (.slice A1 n1 m1) (.slice A2 n2 m2) (.slice A3 n3 m3) (.slice A4 n4 m4) (.slice A5 n5 m5) (.slice A6 n6 m6));clear h k hs hq1 hq2 hq3 hq4 hq5 hq6;unfold Hl;go_enter Tryz.func20,Tryz.ntmps20;go_upto_region 1 with(fail)
 have hz:w.heap.size+1=(w.alloc (.cells #[.slice A1 n1 m1,.slice A2 n2 m2,.slice A3 n3 m3,.slice A4 n4 m4,.slice A5 n5 m5,.slice A6 n6 m6] 27)).heap.size:=by simp
 rw[hz];obtain⟨b,hb⟩:∃b,w.heap.size=b:=⟨_,rfl⟩
 rw[hb]at N1⊢;generalize w.alloc (.cells #[.slice A1 n1 m1,.slice A2 n2 m2,.slice A3 n3 m3,.slice A4 n4 m4,.slice A5 n5 m5,.slice A6 n6 m6] 27)=X at *;have HB2:=AA ((Below.refl X.heap.size X).alloc (Nat.le_refl _) (.cells #[.slice B1 p1 r1,.slice B2 p2 r2,.slice B3 p3 r3,.slice B4 p4 r4,.slice B5 p5 r5,.slice B6 p6 r6] 27));have HY:=AA (Js X (.slice B1 p1 r1) (.slice B2 p2 r2) (.slice B3 p3 r3) (.slice B4 p4 r4) (.slice B5 p5 r5) (.slice B6 p6 r6));have HX:=AA (N1.out.on HB2.out);obtain⟨d,hd⟩:∃d,X.heap.size=d:=⟨_,rfl⟩
 have HB0:=AA (AC HB1.out HB2.out);rw[hd]at HY⊢;generalize X.alloc (.cells #[.slice B1 p1 r1,.slice B2 p2 r2,.slice B3 p3 r3,.slice B4 p4 r4,.slice B5 p5 r5,.slice B6 p6 r6] 27)=w0 at *;clear hb hd N1 HB1 HB2 hz;have HC:Hid (Calls Tryz.prog 65 #[.slice A1 n1 m1,.slice B1 p1 r1,.func (.func 66) #[] #[]] w0 (AK q1 w0)):=AA (by rw[<-HQ1.out];exact QFM (HP.out.on HB0.out).lines (HK.out.on HB0.out).lines HS.out.nl (fun l h=>(HS.out.lines l h).1));obtain⟨l,z0,z1,z2,z3,z4,z5, -, -, -, -, -, -⟩:=AX HX.out;obtain⟨l2,y0,y1,y2,y3,y4,y5, -, -, -, -, -, -⟩:=AX HY.out;go_wp2_with fail
 refine HC.out.mono ?_;rintro e w1 ⟨rfl,hb⟩;replace HX:=AA (HX.out.on hb);replace HY:=AA (HY.out.on hb);replace HB0:=AA (AC HB0.out hb);clear hb HC l l2 z0 z1 z2 z3 z4 z5 y0 y1 y2 y3 y4 y5;cases q1 with
 |false=>
  go_wp2_with fail
  go_ret;exact⟨AH (by rw[HRP.out];simp),HB0.out⟩
 |true=>
  have HC:Hid (Calls Tryz.prog 66 #[.slice A2 n2 m2,.slice B2 p2 r2] w1 (AK q2 w1)):=AA (by rw[<-HQ2.out];exact Uj (HP.out.on HB0.out).vols (HK.out.on HB0.out).vols HS.out.nv);obtain⟨l,z0,z1,z2,z3,z4,z5, -, -, -, -, -, -⟩:=AX HX.out;obtain⟨l2,y0,y1,y2,y3,y4,y5, -, -, -, -, -, -⟩:=AX HY.out;go_wp2_with fail
  refine HC.out.mono ?_;rintro e w2 ⟨rfl,hb⟩;replace HX:=AA (HX.out.on hb);replace HY:=AA (HY.out.on hb);replace HB0:=AA (AC HB0.out hb);clear hb HC l l2 z0 z1 z2 z3 z4 z5 y0 y1 y2 y3 y4 y5;cases q2 with
  |false=>
   go_wp2_with fail
   go_ret;exact⟨AH (by rw[HRP.out];simp),HB0.out⟩
  |true=>
   have HC:Hid (Calls Tryz.prog 66 #[.slice A3 n3 m3,.slice B3 p3 r3] w2 (AK q3 w2)):=AA (by rw[<-HQ3.out];exact Uj (HP.out.on HB0.out).locks (HK.out.on HB0.out).locks HS.out.nk);obtain⟨l,z0,z1,z2,z3,z4,z5, -, -, -, -, -, -⟩:=AX HX.out;obtain⟨l2,y0,y1,y2,y3,y4,y5, -, -, -, -, -, -⟩:=AX HY.out;go_wp2_with fail
   refine HC.out.mono ?_;rintro e w3 ⟨rfl,hb⟩;replace HX:=AA (HX.out.on hb);replace HY:=AA (HY.out.on hb);replace HB0:=AA (AC HB0.out hb);clear hb HC l l2 z0 z1 z2 z3 z4 z5 y0 y1 y2 y3 y4 y5;cases q3 with
   |false=>
    go_wp2_with fail
    go_ret;exact⟨AH (by rw[HRP.out];simp),HB0.out⟩
   |true=>
    have HC:Hid (Calls Tryz.prog 67 #[.slice A4 n4 m4,.slice B4 p4 r4,.func (.func 68) #[] #[]] w3 (AK q4 w3)):=AA (by rw[<-HQ4.out];exact TE (HP.out.on HB0.out).threads (HK.out.on HB0.out).threads HS.out.nt HS.out.threads);obtain⟨l,z0,z1,z2,z3,z4,z5, -, -, -, -, -, -⟩:=AX HX.out;obtain⟨l2,y0,y1,y2,y3,y4,y5, -, -, -, -, -, -⟩:=AX HY.out;go_wp2_with fail
    refine HC.out.mono ?_;rintro e w4 ⟨rfl,hb⟩;replace HX:=AA (HX.out.on hb);replace HY:=AA (HY.out.on hb);replace HB0:=AA (AC HB0.out hb);clear hb HC l l2 z0 z1 z2 z3 z4 z5 y0 y1 y2 y3 y4 y5;cases q4 with
    |false=>
     go_wp2_with fail
     go_ret;exact⟨AH (by rw[HRP.out];simp),HB0.out⟩
    |true=>
     have HC:Hid (Calls Tryz.prog 67 #[.slice A5 n5 m5,.slice B5 p5 r5,.func (.func 68) #[] #[]] w4 (AK q5 w4)):=AA (by rw[<-HQ5.out];exact TE (HP.out.on HB0.out).recs (HK.out.on HB0.out).recs HS.out.nr HS.out.recs);obtain⟨l,z0,z1,z2,z3,z4,z5, -, -, -, -, -, -⟩:=AX HX.out;obtain⟨l2,y0,y1,y2,y3,y4,y5, -, -, -, -, -, -⟩:=AX HY.out;go_wp2_with fail
     refine HC.out.mono ?_;rintro e w5 ⟨rfl,hb⟩;replace HX:=AA (HX.out.on hb);replace HY:=AA (HY.out.on hb);replace HB0:=AA (AC HB0.out hb);clear hb HC l l2 z0 z1 z2 z3 z4 z5 y0 y1 y2 y3 y4 y5;cases q5 with
     |false=>
      go_wp2_with fail
      go_ret;exact⟨AH (by rw[HRP.out];simp),HB0.out⟩
     |true=>
      have HC:Hid (Calls Tryz.prog 69 #[.slice A6 n6 m6,.slice B6 p6 r6,.func (.func 70) #[] #[]] w5 (AK q6 w5)):=AA (by rw[<-HQ6.out];exact QDY (HP.out.on HB0.out).claims (HK.out.on HB0.out).claims HS.out.nc HS.out.claims);obtain⟨l,z0,z1,z2,z3,z4,z5, -, -, -, -, -, -⟩:=AX HX.out;obtain⟨l2,y0,y1,y2,y3,y4,y5, -, -, -, -, -, -⟩:=AX HY.out;go_wp2_with fail
      refine HC.out.mono ?_;rintro e w6 ⟨rfl,hb⟩;replace HX:=AA (HX.out.on hb);replace HY:=AA (HY.out.on hb);replace HB0:=AA (AC HB0.out hb);clear hb HC l l2 z0 z1 z2 z3 z4 z5 y0 y1 y2 y3 y4 y5;go_wp2_with fail
      go_ret;exact⟨AH (by rw[HRP.out];simp),HB0.out⟩
end Go.Proofs.YthfkpalfopdmhaaGreatDoor
