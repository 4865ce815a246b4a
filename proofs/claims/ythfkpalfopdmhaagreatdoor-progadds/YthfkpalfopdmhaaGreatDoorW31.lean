/- Texts of the walk, packed. -/
import Derived.Test.YthfkpalfopdmhaaGreatDoorW30
import Derived.Test.YthfkpalfopdmhaaGreatDoorW29
import Derived.Deep.Slices
import Derived.Carry
import Derived.Test.YthfkpalfopdmhaaGreatDoorW00
namespace Go.Proofs.YthfkpalfopdmhaaGreatDoor
open Go.ChangeShapes Go.WideShapes Go.ChangeAt Go.RowKit
open Go.ChangeMaps (open_string shut_string)
set_option maxRecDepth 100000
theorem laidOut:laidOutB Tryz.prog=true:=by kernel_rfl
theorem cells46:Tryz.prog.cellsOf 46=4:=by kernel_rfl
theorem cells44:Tryz.prog.cellsOf 44=9:=by kernel_rfl
theorem cells42:Tryz.prog.cellsOf 42=1:=by kernel_rfl
theorem cells39:Tryz.prog.cellsOf 39=1:=by kernel_rfl
theorem cells38:Tryz.prog.cellsOf 38=1:=by kernel_rfl
theorem cells48:Tryz.prog.cellsOf 48=3:=by kernel_rfl
theorem cells23:Tryz.prog.cellsOf 23=1:=by kernel_rfl
theorem cells22:Tryz.prog.cellsOf 22=1:=by kernel_rfl
theorem cells41:Tryz.prog.cellsOf 41=4:=by kernel_rfl
theorem cells24:Tryz.prog.cellsOf 24=1:=by kernel_rfl
theorem cells50:Tryz.prog.cellsOf 50=2:=by kernel_rfl
theorem cells25:Tryz.prog.cellsOf 25=1:=by kernel_rfl
theorem cells27:Tryz.prog.cellsOf 27=6:=by kernel_rfl
def zeroS:RawS:=⟨0,ByteArray.empty,ByteArray.empty,none,0,0,fun _=>⟨0,0,ByteArray.empty,0⟩,none,0,0,fun _=>⟨0,0,ByteArray.empty,0⟩,0,0,0,0⟩
section
variable {H:Type} {enc:TypeId×Value->H} {W:World} {sp:Nat->Bool} {held:Bool} {x:DataW H×List MemPlace} {cs:List Value} {c:Value} {len cap fuel:Nat} {A:Option Addr}
theorem N6 {n t k base:Nat} {y:DataW H×List MemPlace} (hc:Tryz.prog.cellsOf t=1) (g:DataW.trod enc Tryz.prog W base sp held n t ((cs.drop k).take (Tryz.prog.cellsOf t))=some y) (hk:(cs.drop k).take 1=[c]):DataW.trod enc Tryz.prog W base sp held n t [c]=some y:=by
 rw[hc,hk]at g;exact g
theorem I1 {sl el:TypeId} (hs:Tryz.prog.underlying sl=some (.slice el)) (h:DataW.trod enc Tryz.prog W 0 sp held fuel sl [c]=some x):∃A n p,c=.slice A n p:=by
 rcases Go.Deep.open_slice hs h with⟨hcs,_⟩|⟨a,len',cap',m,n,D,Pl,hcs,_⟩
 ·simp only[List.cons.injEq,and_true]at hcs;exact⟨_,_,_,hcs⟩
 ·simp only[List.cons.injEq,and_true]at hcs;exact⟨_,_,_,hcs⟩
theorem rowsOf {ρ:Type} {m:Nat} {sl el:TypeId} (F:ρ->List Value) (Q:ρ->Prop) (z:ρ) (hs:Tryz.prog.underlying sl=some (.slice el)) (hm:Tryz.prog.cellsOf el=m) (h1:0<m)
  (hl:∀r,(F r).length=m) (hf:∀n cs y,DataW.trod enc Tryz.prog W 0 sp held n el cs=some y->∃r,cs=F r/\Q r) (h:DataW.trod enc Tryz.prog W 0 sp held fuel sl [.slice A len cap]=some x):
  ∃R:Nat->ρ,∀i,i<len->Q (R i)/\∃b off,A=some ⟨b,off,none⟩/\b<W.heap.size/\∀j u,(F (R i))[j]?=some u->W.cell? ⟨b,off+i*m+j,none⟩=some u:=by
 rcases Go.Deep.open_slice hs h with⟨hcs,_⟩|⟨a,len',cap',k,n,D,Pl,hcs,_,hl',_,hk,_,hi⟩
 ·simp only[List.cons.injEq,and_true,Value.slice.injEq]at hcs;obtain⟨rfl,rfl,rfl⟩:=hcs;exact⟨fun _=>z,fun i hi=>absurd hi (by omega)⟩
 ·simp only[List.cons.injEq,and_true,Value.slice.injEq]at hcs;obtain⟨rfl,rfl,rfl⟩:=hcs;have key:∀i,i<len->∃r,Q r/\∃(b off:Nat),a=⟨b,off,none⟩/\b<W.heap.size/\∀j u,(F r)[j]?=some u->W.cell? ⟨b,off+i*m+j,none⟩=some u:=by
   intro i hil;obtain⟨cs',hc,ht⟩:=hi i (by rw[hk];split<;>omega);rw[hm]at hc;obtain⟨r,rfl,hq⟩:=hf _ _ _ ht;obtain⟨_,hlen,hat⟩:=World.cells?_some hc;obtain⟨b,off,spot⟩:=a;have hspot:spot=none:=by
    obtain⟨cs0,hc0,ht0⟩:=hi 0 (by rw[hk];split<;>omega);rw[hm]at hc0;obtain⟨r0,rfl,_⟩:=hf _ _ _ ht0;obtain⟨_,_,hat0⟩:=World.cells?_some hc0;have h0:=(hat0 0 h1).trans (List.getElem?_eq_getElem (by rw[hl];exact h1));simpa[Addr.add]using World.cell?_spot h0
   subst hspot;have hz:=(hat 0 h1).trans (List.getElem?_eq_getElem (by rw[hl];exact h1));rw[Go.WideShapes.add_plain,Go.WideShapes.add_plain]at hz;refine⟨r,hq,b,off,rfl,by simpa using World.block_lt_of_cell? W _ hz,fun j u hu=>?_⟩;have hj:j<m:=by rw[<-hl r];exact(List.getElem?_eq_some_iff.1 hu).1
   have hcj:=hat j hj;rw[Go.WideShapes.add_plain,Go.WideShapes.add_plain]at hcj;rw[hcj];exact hu
  refine⟨fun i=>if h:i<len then(key i h).choose else z,fun i hil=>?_⟩;simp only[hil,dif_pos];obtain⟨hq,b,off,e,hb,hc⟩:=(key i hil).choose_spec;exact⟨hq,b,off,congrArg some e,hb,hc⟩
theorem QFR {base:Nat} (h:DataW.trod enc Tryz.prog W base sp held fuel 46 cs=some x):
  ∃r:Nb,cs=[.int .i64 r.op,.int .i64 r.n,.string r.name,.int .i64 r.pl]:=by
 obtain⟨xs,n,_,_,hlen,hxl,hf⟩:=DataW.trod_struct Tryz.underlying46 h;rw[cells46]at hlen
 match cs,hlen with
 |[c0,c1,c2,c3],_=>
  match xs,hxl with
  |[y0,y1,y2,y3],_=>
   obtain⟨a,e0,_,_⟩:=DataW.trod_int Tryz.underlying3 (N6 cells3 (hf 0 _ rfl) rfl);obtain⟨b,e1,_,_⟩:=DataW.trod_int Tryz.underlying3 (N6 cells3 (hf 1 _ rfl) rfl);obtain⟨t,e2,_,_⟩:=DataW.trod_string Tryz.underlying9 (N6 cells9 (hf 2 _ rfl) rfl);obtain⟨c,e3,_,_⟩:=DataW.trod_int Tryz.underlying3 (N6 cells3 (hf 3 _ rfl) rfl);simp only[List.cons.injEq,and_true]at e0 e1 e2 e3;subst e0;subst e1;subst e2;subst e3;exact⟨⟨a,b,t,c⟩,rfl⟩
theorem QHR (h:DataW.trod enc Tryz.prog W 0 sp held fuel 42 [.slice A len cap]=some x):∃R,MN W A len R:=by
 obtain⟨R,hR⟩:=rowsOf (fun r:Nb=>[.int .i64 r.op,.int .i64 r.n,.string r.name,.int .i64 r.pl]) (fun r=>True) ⟨0,0,ByteArray.empty,0⟩ Tryz.underlying42 cells46 (by decide) (fun _=>rfl) (fun _ _ _ ht=>by obtain⟨r,rfl⟩:=QFR ht;exact⟨r,rfl,trivial⟩) h;refine⟨R,fun i hi=>?_⟩;obtain⟨_,b,off,hA,hb,hc⟩:=hR i hi;exact⟨b,off,hA,hb,hc 0 _ rfl,hc 1 _ rfl,hc 2 _ rfl,hc 3 _ rfl⟩
theorem fieldN (h:DataW.trod enc Tryz.prog W 0 sp held fuel 42 [c]=some x):∃A n p R,c=.slice A n p/\MN W A n R:=by
 obtain⟨_,_,_,rfl⟩:=I1 Tryz.underlying42 h;exact⟨_,_,_,_,rfl,(QHR h).choose_spec⟩
theorem QFS (h:DataW.trod enc Tryz.prog W 0 sp held fuel 44 cs=some x):
  ∃r:RawS,cs=[.int .i64 r.kind,.string r.reg,.string r.name,.slice r.AE r.nE r.cE,.slice r.AF r.nF r.cF,.int .i64 r.n,.int .i64 r.body,.int .i64 r.els,.int .i64 r.pl]/\MN W r.AE r.nE r.RE/\MN W r.AF r.nF r.RF:=by
 obtain⟨xs,n,_,_,hlen,hxl,hf⟩:=DataW.trod_struct Tryz.underlying44 h;rw[cells44]at hlen
 match cs,hlen with
 |[c0,c1,c2,c3,c4,c5,c6,c7,c8],_=>
  match xs,hxl with
  |[y0,y1,y2,y3,y4,y5,y6,y7,y8],_=>
   obtain⟨a0,e0,_,_⟩:=DataW.trod_int Tryz.underlying3 (N6 cells3 (hf 0 _ rfl) rfl);obtain⟨a1,e1,_,_⟩:=DataW.trod_string Tryz.underlying9 (N6 cells9 (hf 1 _ rfl) rfl);obtain⟨a2,e2,_,_⟩:=DataW.trod_string Tryz.underlying9 (N6 cells9 (hf 2 _ rfl) rfl);obtain⟨A3,n3,p3,R3,e3,hR3⟩:=fieldN (N6 cells42 (hf 3 _ rfl) rfl);obtain⟨A4,n4,p4,R4,e4,hR4⟩:=fieldN (N6 cells42 (hf 4 _ rfl) rfl);obtain⟨a5,e5,_,_⟩:=DataW.trod_int Tryz.underlying3 (N6 cells3 (hf 5 _ rfl) rfl);obtain⟨a6,e6,_,_⟩:=DataW.trod_int Tryz.underlying3 (N6 cells3 (hf 6 _ rfl) rfl);obtain⟨a7,e7,_,_⟩:=DataW.trod_int Tryz.underlying3 (N6 cells3 (hf 7 _ rfl) rfl)
   obtain⟨a8,e8,_,_⟩:=DataW.trod_int Tryz.underlying3 (N6 cells3 (hf 8 _ rfl) rfl);simp only[List.cons.injEq,and_true]at e0 e1 e2 e5 e6 e7 e8;subst e0;subst e1;subst e2;subst e3;subst e4;subst e5;subst e6;subst e7;subst e8;exact⟨⟨a0,a1,a2,A3,n3,p3,R3,A4,n4,p4,R4,a5,a6,a7,a8⟩,rfl,hR3,hR4⟩
theorem QHS (h:DataW.trod enc Tryz.prog W 0 sp held fuel 39 [.slice A len cap]=some x):∃R,UA W A len R:=by
 obtain⟨R,hR⟩:=rowsOf (fun r:RawS=>[.int .i64 r.kind,.string r.reg,.string r.name,.slice r.AE r.nE r.cE,.slice r.AF r.nF r.cF,.int .i64 r.n,.int .i64 r.body,.int .i64 r.els,.int .i64 r.pl]) (fun r=>MN W r.AE r.nE r.RE/\MN W r.AF r.nF r.RF) zeroS Tryz.underlying39 cells44 (by decide) (fun _=>rfl) (fun _ _ _ ht=>by obtain⟨r,rfl,u0,u1⟩:=QFS ht;exact⟨r,rfl,⟨u0,u1⟩⟩) h;refine⟨R,fun i hi=>?_⟩;obtain⟨⟨u0,u1⟩,b,off,hA,hb,hc⟩:=hR i hi;exact⟨b,off,hA,hb,hc 0 _ rfl,hc 1 _ rfl,hc 2 _ rfl,hc 3 _ rfl,hc 4 _ rfl,hc 5 _ rfl,hc 6 _ rfl,hc 7 _ rfl,hc 8 _ rfl,u0,u1⟩
theorem QGn (h:DataW.trod enc Tryz.prog W 0 sp held fuel 39 [c]=some x):∃A n p R,c=.slice A n p/\UA W A n R:=by
 obtain⟨_,_,_,rfl⟩:=I1 Tryz.underlying39 h;exact⟨_,_,_,_,rfl,(QHS h).choose_spec⟩
theorem QFT (h:DataW.trod enc Tryz.prog W 0 sp held fuel 48 cs=some x):
  ∃r:Ni,cs=[.string r.name,.int .i64 r.n,.int .i64 r.pl]:=by
 obtain⟨xs,n,_,_,hlen,hxl,hf⟩:=DataW.trod_struct Tryz.underlying48 h;rw[cells48]at hlen
 match cs,hlen with
 |[c0,c1,c2],_=>
  match xs,hxl with
  |[y0,y1,y2],_=>
   obtain⟨a0,e0,_,_⟩:=DataW.trod_string Tryz.underlying9 (N6 cells9 (hf 0 _ rfl) rfl);obtain⟨a1,e1,_,_⟩:=DataW.trod_int Tryz.underlying3 (N6 cells3 (hf 1 _ rfl) rfl);obtain⟨a2,e2,_,_⟩:=DataW.trod_int Tryz.underlying3 (N6 cells3 (hf 2 _ rfl) rfl);simp only[List.cons.injEq,and_true]at e0 e1 e2;subst e0;subst e1;subst e2;exact⟨⟨a0,a1,a2⟩,rfl⟩
theorem QGo (h:DataW.trod enc Tryz.prog W 0 sp held fuel 23 [.slice A len cap]=some x):∃R,PK W A len R:=by
 obtain⟨R,hR⟩:=rowsOf (fun r:Ni=>[.string r.name,.int .i64 r.n,.int .i64 r.pl]) (fun r=>True) ⟨ByteArray.empty,0,0⟩ Tryz.underlying23 cells48 (by decide) (fun _=>rfl) (fun _ _ _ ht=>by obtain⟨r,rfl⟩:=QFT ht;exact⟨r,rfl,trivial⟩) h;refine⟨R,fun i hi=>?_⟩;obtain⟨_,b,off,hA,hb,hc⟩:=hR i hi;exact⟨b,off,hA,hb,hc 0 _ rfl,hc 1 _ rfl,hc 2 _ rfl⟩
theorem QDm (h:DataW.trod enc Tryz.prog W 0 sp held fuel 23 [c]=some x):∃A n p R,c=.slice A n p/\PK W A n R:=by
 obtain⟨_,_,_,rfl⟩:=I1 Tryz.underlying23 h;exact⟨_,_,_,_,rfl,(QGo h).choose_spec⟩
theorem QFU (h:DataW.trod enc Tryz.prog W 0 sp held fuel 23 cs=some x):∃A n p R,cs=[.slice A n p]/\PK W A n R:=by
 rcases Go.Deep.open_slice Tryz.underlying23 h with⟨hcs,_⟩|⟨a,len',cap',m,n,D,Pl,hcs,_⟩
 ·subst hcs;obtain⟨R,hR⟩:=QGo h;exact⟨_,_,_,R,rfl,hR⟩
 ·subst hcs;obtain⟨R,hR⟩:=QGo h;exact⟨_,_,_,R,rfl,hR⟩
theorem QFV (h:DataW.trod enc Tryz.prog W 0 sp held fuel 9 cs=some x):
  ∃r:UF,cs=[.string r.s]:=by
 obtain⟨a0,e0,_,_⟩:=DataW.trod_string Tryz.underlying9 h;exact⟨⟨a0⟩,e0⟩
theorem QHT (h:DataW.trod enc Tryz.prog W 0 sp held fuel 38 [.slice A len cap]=some x):∃R,Vh W A len R:=by
 obtain⟨R,hR⟩:=rowsOf (fun r:UF=>[.string r.s]) (fun r=>True) ⟨ByteArray.empty⟩ Tryz.underlying38 cells9 (by decide) (fun _=>rfl) (fun _ _ _ ht=>by obtain⟨r,rfl⟩:=QFV ht;exact⟨r,rfl,trivial⟩) h;refine⟨R,fun i hi=>?_⟩;obtain⟨_,b,off,hA,hb,hc⟩:=hR i hi;exact⟨b,off,hA,hb,by simpa using hc 0 _ rfl⟩
theorem QGp (h:DataW.trod enc Tryz.prog W 0 sp held fuel 38 [c]=some x):∃A n p R,c=.slice A n p/\Vh W A n R:=by
 obtain⟨_,_,_,rfl⟩:=I1 Tryz.underlying38 h;exact⟨_,_,_,_,rfl,(QHT h).choose_spec⟩
theorem QFW (h:DataW.trod enc Tryz.prog W 0 sp held fuel 23 cs=some x):
  ∃r:UG,cs=[.slice r.A r.n r.c]/\PK W r.A r.n r.R:=by
 obtain⟨A0,n0,p0,R0,e0,hR0⟩:=QFU h;exact⟨⟨A0,n0,p0,R0⟩,e0,hR0⟩
theorem QHU (h:DataW.trod enc Tryz.prog W 0 sp held fuel 22 [.slice A len cap]=some x):∃R,QAG W A len R:=by
 obtain⟨R,hR⟩:=rowsOf (fun r:UG=>[.slice r.A r.n r.c]) (fun r=>PK W r.A r.n r.R) ⟨none,0,0,fun _=>⟨ByteArray.empty,0,0⟩⟩ Tryz.underlying22 cells23 (by decide) (fun _=>rfl) (fun _ _ _ ht=>by obtain⟨r,rfl,u0⟩:=QFW ht;exact⟨r,rfl,u0⟩) h;refine⟨R,fun i hi=>?_⟩;obtain⟨u0,b,off,hA,hb,hc⟩:=hR i hi;exact⟨b,off,hA,hb,by simpa using hc 0 _ rfl,u0⟩
theorem QGq (h:DataW.trod enc Tryz.prog W 0 sp held fuel 22 [c]=some x):∃A n p R,c=.slice A n p/\QAG W A n R:=by
 obtain⟨_,_,_,rfl⟩:=I1 Tryz.underlying22 h;exact⟨_,_,_,_,rfl,(QHU h).choose_spec⟩
theorem QFX (h:DataW.trod enc Tryz.prog W 0 sp held fuel 41 cs=some x):
  ∃r:Jj,cs=[.string r.name,.slice r.AR r.nR r.cR,.slice r.AB r.nB r.cB,.int .i64 r.pl]/\Vh W r.AR r.nR r.RR/\UA W r.AB r.nB r.RB:=by
 obtain⟨xs,n,_,_,hlen,hxl,hf⟩:=DataW.trod_struct Tryz.underlying41 h;rw[cells41]at hlen
 match cs,hlen with
 |[c0,c1,c2,c3],_=>
  match xs,hxl with
  |[y0,y1,y2,y3],_=>
   obtain⟨a0,e0,_,_⟩:=DataW.trod_string Tryz.underlying9 (N6 cells9 (hf 0 _ rfl) rfl);obtain⟨A1,n1,p1,R1,e1,hR1⟩:=QGp (N6 cells38 (hf 1 _ rfl) rfl);obtain⟨A2,n2,p2,R2,e2,hR2⟩:=QGn (N6 cells39 (hf 2 _ rfl) rfl);obtain⟨a3,e3,_,_⟩:=DataW.trod_int Tryz.underlying3 (N6 cells3 (hf 3 _ rfl) rfl);simp only[List.cons.injEq,and_true]at e0 e3;subst e0;subst e1;subst e2;subst e3;exact⟨⟨a0,A1,n1,p1,R1,A2,n2,p2,R2,a3⟩,rfl,hR1,hR2⟩
theorem QHV (h:DataW.trod enc Tryz.prog W 0 sp held fuel 24 [.slice A len cap]=some x):∃R,Vi W A len R:=by
 obtain⟨R,hR⟩:=rowsOf (fun r:Jj=>[.string r.name,.slice r.AR r.nR r.cR,.slice r.AB r.nB r.cB,.int .i64 r.pl]) (fun r=>Vh W r.AR r.nR r.RR/\UA W r.AB r.nB r.RB) ⟨ByteArray.empty,none,0,0,fun _=>⟨ByteArray.empty⟩,none,0,0,fun _=>zeroS,0⟩ Tryz.underlying24 cells41 (by decide) (fun _=>rfl) (fun _ _ _ ht=>by obtain⟨r,rfl,u0,u1⟩:=QFX ht;exact⟨r,rfl,⟨u0,u1⟩⟩) h;refine⟨R,fun i hi=>?_⟩;obtain⟨⟨u0,u1⟩,b,off,hA,hb,hc⟩:=hR i hi;exact⟨b,off,hA,hb,hc 0 _ rfl,hc 1 _ rfl,hc 2 _ rfl,hc 3 _ rfl,u0,u1⟩
theorem QDn (h:DataW.trod enc Tryz.prog W 0 sp held fuel 24 [c]=some x):∃A n p R,c=.slice A n p/\Vi W A n R:=by
 obtain⟨_,_,_,rfl⟩:=I1 Tryz.underlying24 h;exact⟨_,_,_,_,rfl,(QHV h).choose_spec⟩
theorem QFY (h:DataW.trod enc Tryz.prog W 0 sp held fuel 50 cs=some x):
  ∃r:UH,cs=[.slice r.AE r.nE r.cE,.int .i64 r.pl]/\MN W r.AE r.nE r.RE:=by
 obtain⟨xs,n,_,_,hlen,hxl,hf⟩:=DataW.trod_struct Tryz.underlying50 h;rw[cells50]at hlen
 match cs,hlen with
 |[c0,c1],_=>
  match xs,hxl with
  |[y0,y1],_=>
   obtain⟨A0,n0,p0,R0,e0,hR0⟩:=fieldN (N6 cells42 (hf 0 _ rfl) rfl);obtain⟨a1,e1,_,_⟩:=DataW.trod_int Tryz.underlying3 (N6 cells3 (hf 1 _ rfl) rfl);simp only[List.cons.injEq,and_true]at e1;subst e0;subst e1;exact⟨⟨A0,n0,p0,R0,a1⟩,rfl,hR0⟩
theorem QHW (h:DataW.trod enc Tryz.prog W 0 sp held fuel 25 [.slice A len cap]=some x):∃R,QAH W A len R:=by
 obtain⟨R,hR⟩:=rowsOf (fun r:UH=>[.slice r.AE r.nE r.cE,.int .i64 r.pl]) (fun r=>MN W r.AE r.nE r.RE) ⟨none,0,0,fun _=>⟨0,0,ByteArray.empty,0⟩,0⟩ Tryz.underlying25 cells50 (by decide) (fun _=>rfl) (fun _ _ _ ht=>by obtain⟨r,rfl,u0⟩:=QFY ht;exact⟨r,rfl,u0⟩) h;refine⟨R,fun i hi=>?_⟩;obtain⟨u0,b,off,hA,hb,hc⟩:=hR i hi;exact⟨b,off,hA,hb,hc 0 _ rfl,hc 1 _ rfl,u0⟩
theorem QGr (h:DataW.trod enc Tryz.prog W 0 sp held fuel 25 [c]=some x):∃A n p R,c=.slice A n p/\QAH W A n R:=by
 obtain⟨_,_,_,rfl⟩:=I1 Tryz.underlying25 h;exact⟨_,_,_,_,rfl,(QHW h).choose_spec⟩
theorem QHL (h:DataW.trod enc Tryz.prog W 0 sp held fuel 27 cs=some x):∃p:MR,cs.toArray=(QAJ p).cells/\QAI W p:=by
 obtain⟨xs,n,_,_,hlen,hxl,hf⟩:=DataW.trod_struct Tryz.underlying27 h;rw[cells27]at hlen
 match cs,hlen with
 |[c0,c1,c2,c3,c4,c5],_=>
  match xs,hxl with
  |[y0,y1,y2,y3,y4,y5],_=>
   obtain⟨A0,n0,p0,R0,e0,hR0⟩:=QGq (N6 cells22 (hf 0 _ rfl) rfl);obtain⟨A1,n1,p1,R1,e1,hR1⟩:=QDm (N6 cells23 (hf 1 _ rfl) rfl);obtain⟨A2,n2,p2,R2,e2,hR2⟩:=QDm (N6 cells23 (hf 2 _ rfl) rfl);obtain⟨A3,n3,p3,R3,e3,hR3⟩:=QDn (N6 cells24 (hf 3 _ rfl) rfl);obtain⟨A4,n4,p4,R4,e4,hR4⟩:=QDn (N6 cells24 (hf 4 _ rfl) rfl);obtain⟨A5,n5,p5,R5,e5,hR5⟩:=QGr (N6 cells25 (hf 5 _ rfl) rfl);subst e0;subst e1;subst e2;subst e3;subst e4;subst e5;exact⟨⟨A0,n0,p0,R0,A1,n1,p1,R1,A2,n2,p2,R2,A3,n3,p3,R3,A4,n4,p4,R4,A5,n5,p5,R5⟩,rfl,⟨hR0,hR1,hR2,hR3,hR4,hR5⟩⟩
end
end Go.Proofs.YthfkpalfopdmhaaGreatDoor
