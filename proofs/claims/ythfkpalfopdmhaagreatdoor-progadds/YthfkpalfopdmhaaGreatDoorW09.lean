/- Texts of the walk, packed. -/
import Derived.Test.YthfkpalfopdmhaaGreatDoorW07
import Derived.Maps.AppendAt
import Derived.Laws.AppendOwnNone
import Derived.Shelf.Strings.Builder1
import Derived.Shelf.Strings.Builder2
import Derived.Shelf.Strings.OnBuilder
import Derived.Shelf.Strings.Trim
import Derived.Shelf.Small.Utf8
import Derived.Shelf.Small.Strs
import Derived.Shelf.Small.Wraps
import Derived.Shelf.Strings.BuilderF
import Derived.Shelf.Strings.BuilderK
import Derived.Shelf.Strconv.Itoa0
import Derived.Shelf.Strconv.Itoa1
import Derived.Shelf.LaysM
import Derived.Shelf.Strconv.Itoa2
import Derived.Shelf.Strconv.Itoa3
import Derived.Shelf.Strings.Search1
import Derived.Shelf.Strings.Search2
import Derived.Shelf.Strings.Search3
import Derived.Shelf.Strings.Cut
import Derived.Shelf.Strings.Shaped
import Derived.Shelf.Strings.Prefix
import Derived.Shelf.Strings.Fields
import Derived.Shelf.Unicode.Latin
import Derived.Shelf.Strings.Runes
import Derived.Shelf.Strings.AsciiSet
import Derived.Shelf.Unicode.DecodeSlow
import Derived.Shelf.Unicode.DecodeAny
import Derived.Shelf.Unicode.Is16White
import Derived.Shelf.Unicode.IsSpaceAny
import Derived.Shelf.Unicode.Is16Any
import Derived.Shelf.Unicode.Is32Any
import Derived.Shelf.Unicode.ExclAny
import Derived.Shelf.Slices.Equal
import Derived.Shelf.Slices.Empties2
import Derived.Test.YthfkpalfopdmhaaGreatDoorProg
import Derived.Test.YthfkpalfopdmhaaGreatDoorW00
namespace Go.Proofs.YthfkpalfopdmhaaGreatDoor
open Go.RowKit
structure Prt where
 ns:List Nod
 many:Nat
 deep:Nat
def BL (x:Ex):Prt:=⟨if x.size<=40 then x.flat else[],x.size,x.deep⟩
def EB (ps:List Prt):Nat:=1+(ps.map (·.many)).sum
def EC (ps:List Prt):Nat:=ps.foldl (fun k p=>max k (p.deep+1)) 1
def Ht (a:Nod) (ps:List Prt):List Nod:=a::ps.flatMap (·.ns)
def FA (a:Nod) (ps:List Prt):Prt:=⟨if EB ps<=40 then Ht a ps else[],EB ps,EC ps⟩
theorem Rz (a:Nod):FA a []=BL (.leaf a):=rfl
theorem QBd {n n':List Nod} {m m' k k':Nat} (h1:n=n') (h2:m=m') (h3:k=k'):(⟨n,m,k⟩:Prt)=⟨n',m',k'⟩:=by
 subst h1;subst h2;subst h3;rfl
theorem QD4 (a:Nod) (x:Ex):FA a [BL x]=BL (.un a x):=by
 have e:EB [BL x]=(Ex.un a x).size:=by simp[EB,BL,Ex.size];omega
 refine QBd ?_ e ?_
 ·rw[e];by_cases h1:(Ex.un a x).size<=40
  ·rw[if_pos h1,if_pos h1];have:x.size<=40:=by simp only[Ex.size]at h1;omega
   simp[Ht,BL,this,Ex.flat]
  ·rw[if_neg h1,if_neg h1]
 ·have h:=M4 x;simp only[EC,BL,List.foldl_cons,List.foldl_nil,Ex.deep];omega
theorem QBe (a:Nod) (x y:Ex):FA a [BL x,BL y]=BL (.bin a x y):=by
 have e:EB [BL x,BL y]=(Ex.bin a x y).size:=by simp[EB,BL,Ex.size];omega
 refine QBd ?_ e ?_
 ·rw[e];by_cases h1:(Ex.bin a x y).size<=40
  ·rw[if_pos h1,if_pos h1];have h2:x.size<=40:=by simp only[Ex.size]at h1;omega
   have h3:y.size<=40:=by simp only[Ex.size]at h1;omega
   simp[Ht,BL,h2,h3,Ex.flat]
  ·rw[if_neg h1,if_neg h1]
 ·have h:=M4 x;simp only[EC,BL,List.foldl_cons,List.foldl_nil,Ex.deep];omega
def QK (p:Prt):Prop:=p.ns.length<=40/\p.many<=100000/\p.deep<=100000
def Lies (w:World) (u:Value) (L:List Nod):Prop:=Ax w u L/\(u=.slice none 0 0\/∃g o n c,u=.slice (some ⟨g,o,none⟩) n c)
theorem Bn.lies {w:World} {B:Nat} {v:Value} {L:List Nod} (h:Bn w B v L):Lies w v L:=by
 refine⟨h.read,?_⟩;rcases h.2 with⟨rfl,_⟩|⟨g,cap,cur,rfl,_⟩
 ·exact .inl rfl
 ·exact .inr ⟨g,0,_,_,rfl⟩
theorem Lies.on {w w':World} {v:Value} {L:List Nod} (h:Lies w v L) (hb:Below w.heap.size w w'):Lies w' v L:=⟨h.1.on hb,h.2⟩
def QL (w:World) (vs:Value) (ps:List Prt):Prop:=
 ∃A c,vs=.slice A ps.length c/\ps.length<=c/\∀i p,ps[i]?=some p->∃g u,A=some ⟨g,0,none⟩/\g<w.heap.size/\w.cell? ⟨g,i*3,none⟩=some u/\w.cell? ⟨g,i*3+1,none⟩=some (.int .i64 p.many)/\w.cell? ⟨g,i*3+2,none⟩=some (.int .i64 p.deep)/\Lies w u p.ns
theorem QL.on {w w':World} {v:Value} {ps:List Prt} (h:QL w v ps) (hb:Below w.heap.size w w'):QL w' v ps:=by
 obtain⟨A,c,hv,hc,hr⟩:=h;refine⟨A,c,hv,hc,fun i t hi=>?_⟩;obtain⟨g,u,hA,hg,h0,h1,h2,h3⟩:=hr i t hi;have e:∀j,w'.cell? ⟨g,j,none⟩=w.cell? ⟨g,j,none⟩:=fun j=>hb.cell (p:=⟨g,j,none⟩) hg
 exact⟨g,u,hA,Nat.lt_of_lt_of_le hg hb.size,by rw[e];exact h0,by rw[e];exact h1,by rw[e];exact h2,h3.on hb⟩
theorem ZS {w:World} {g o n c:Nat} {L:List Nod} (h:Ax w (.slice (some ⟨g,o,none⟩) n c) L):∀j u,(DR L)[j]?=some u->w.cell? ((⟨g,o,none⟩:Addr).add j)=some u:=by
 intro j u hu;obtain⟨i,t,hi,hj,ht⟩:=Oq L j u hu;obtain⟨A,c',hv,_,_,hr⟩:=h;simp only[Value.slice.injEq]at hv;obtain⟨rfl,_,_⟩:=hv;obtain⟨g',o',hA,_,x0,x1,x2,x3⟩:=hr i t hi;simp only[Option.some.injEq,Addr.mk.injEq]at hA;obtain⟨rfl,rfl,_⟩:=hA;have e:(⟨g,o,none⟩:Addr).add j=⟨g,o+j,none⟩:=by
  unfold Addr.add;by_cases h0:j=0
  ·rw[if_pos h0,h0];rfl
  ·rw[if_neg h0]
 rw[e];have hm:j%4<4:=Nat.mod_lt _ (by decide);generalize j%4=q at *
 match q,hm,ht,hj with
 |0,_,ht,hj=>simp[BN]at ht;subst ht;rw[show o+j=o+i*4 from by omega];exact x0
 |1,_,ht,hj=>simp[BN]at ht;subst ht;rw[show o+j=o+i*4+1 from by omega];exact x1
 |2,_,ht,hj=>simp[BN]at ht;subst ht;rw[show o+j=o+i*4+2 from by omega];exact x2
 |3,_,ht,hj=>simp[BN]at ht;subst ht;rw[show o+j=o+i*4+3 from by omega];exact x3
structure Pd (w:World) (g:Nat) (x y z:Value):Prop where
 lt:g<w.heap.size
 c0:w.cell? ⟨g,0,none⟩=some x
 c1:w.cell? ⟨g,1,none⟩=some y
 c2:w.cell? ⟨g,2,none⟩=some z
 f0:w.frozen? ⟨g,0,none⟩=false
 f1:w.frozen? ⟨g,1,none⟩=false
 f2:w.frozen? ⟨g,2,none⟩=false
theorem Pd.on {w w':World} {g:Nat} {x y z:Value} (h:Pd w g x y z) (hb:Below w.heap.size w w'):Pd w' g x y z:=
 ⟨Nat.lt_of_lt_of_le h.lt hb.size,(hb.cell (p:=⟨g,0,none⟩) h.lt).trans h.c0,(hb.cell (p:=⟨g,1,none⟩) h.lt).trans h.c1,(hb.cell (p:=⟨g,2,none⟩) h.lt).trans h.c2,(hb.frozen (p:=⟨g,0,none⟩) h.lt).trans h.f0,(hb.frozen (p:=⟨g,1,none⟩) h.lt).trans h.f1,(hb.frozen (p:=⟨g,2,none⟩) h.lt).trans h.f2⟩
theorem Pd.grown {w w':World} {g:Nat} {x y z:Value} {r:Option Nat} (h:Pd w g x y z) (hb:w.grownBy w' r) (hg:some g≠r):Pd w' g x y z:=by
 have e:∀j,w'.cell? ⟨g,j,none⟩=w.cell? ⟨g,j,none⟩:=fun j=>World.cell?_of_block (hb.block g h.lt hg)
 have f:∀j,w'.frozen? ⟨g,j,none⟩=w.frozen? ⟨g,j,none⟩:=fun j=>World.frozen?_of_block (hb.block g h.lt hg)
 exact⟨Nat.lt_of_lt_of_le h.lt hb.size,(e 0).trans h.c0,(e 1).trans h.c1,(e 2).trans h.c2,(f 0).trans h.f0,(f 1).trans h.f1,(f 2).trans h.f2⟩
theorem Pd.away {w:World} {g b j:Nat} {x y z v:Value} (h:Pd w g x y z) (hg:b≠g):Pd (w.setCell ⟨b,j,none⟩ v) g x y z:=
 ⟨by simpa using h.lt,(World.cell?_setCell_other _ _ _ _ (fun e=>hg (congrArg Addr.block e))).trans h.c0,(World.cell?_setCell_other _ _ _ _ (fun e=>hg (congrArg Addr.block e))).trans h.c1,(World.cell?_setCell_other _ _ _ _ (fun e=>hg (congrArg Addr.block e))).trans h.c2,by simpa using h.f0,by simpa using h.f1,by simpa using h.f2⟩
theorem Pd.set {w:World} {g:Nat} {x y z:Value} (h:Pd w g x y z) (x' y' z':Value):Pd (((w.setCell ⟨g,0,none⟩ x').setCell ⟨g,1,none⟩ y').setCell ⟨g,2,none⟩ z') g x' y' z':=by
 have a0:(w.setCell ⟨g,0,none⟩ x').cell? ⟨g,0,none⟩=some x':=World.cell?_setCell_same _ _ _ h.c0;have a1:(w.setCell ⟨g,0,none⟩ x').cell? ⟨g,1,none⟩=some y:=(World.cell?_setCell_other _ _ _ _ (by simp)).trans h.c1;have a2:(w.setCell ⟨g,0,none⟩ x').cell? ⟨g,2,none⟩=some z:=(World.cell?_setCell_other _ _ _ _ (by simp)).trans h.c2;have b0:((w.setCell ⟨g,0,none⟩ x').setCell ⟨g,1,none⟩ y').cell? ⟨g,0,none⟩=some x':=(World.cell?_setCell_other _ _ _ _ (by simp)).trans a0;have b1:((w.setCell ⟨g,0,none⟩ x').setCell ⟨g,1,none⟩ y').cell? ⟨g,1,none⟩=some y':=World.cell?_setCell_same _ _ _ a1
 have b2:((w.setCell ⟨g,0,none⟩ x').setCell ⟨g,1,none⟩ y').cell? ⟨g,2,none⟩=some z:=(World.cell?_setCell_other _ _ _ _ (by simp)).trans a2;exact⟨by simpa using h.lt,(World.cell?_setCell_other _ _ _ _ (by simp)).trans b0,(World.cell?_setCell_other _ _ _ _ (by simp)).trans b1,World.cell?_setCell_same _ _ _ b2,by simpa using h.f0,by simpa using h.f1,by simpa using h.f2⟩
theorem Bn.away {g B:Nat} {w w':World} {v:Value} {L:List Nod} (h:Bn w B v L) (hB:∀b,v.ownBlock=some b->b≠g) (hk:Ac g w w'):Bn w' B v L:=by
 obtain⟨h1,h2⟩:=h;refine⟨h1,?_⟩;rcases h2 with h2|⟨b,cap,cur,rfl,hg,hh,r⟩
 ·exact .inl h2
 ·exact .inr ⟨b,cap,cur,rfl,hg,(hk.block b (Array.getElem?_eq_some_iff.1 hh).1 (hB b rfl)).trans hh,r⟩
theorem Ba {w:World} {B:Nat} {v:Value} {L:List Nod} (h:Bn w B v L):∀g,v.ownBlock=some g->B<=g/\g<w.heap.size:=by
 intro g hg;rcases h.2 with⟨rfl,_⟩|⟨g',cap,cur,rfl,hB,hh,_⟩
 ·simp[Value.ownBlock]at hg
 ·simp[Value.ownBlock]at hg;subst hg;exact⟨hB,(Array.getElem?_eq_some_iff.1 hh).1⟩
theorem R7 {w:World} {B:Nat} {v:Value} {L:List Nod} (h:Bn w B v L) (hn:0<L.length):∃g cap,v=.slice (some ⟨g,0,none⟩) L.length cap:=by
 rcases h.2 with⟨_,h0⟩|⟨g,cap,cur,hv,_⟩
 ·omega
 ·exact⟨g,cap,hv⟩
theorem QM {ps:List Prt} {k:Nat} {p:Prt} (h:ps[k]?=some p):EB (ps.take (k+1))=EB (ps.take k)+p.many:=by
 unfold EB;rw[List.take_add_one,h];simp;omega
theorem Ov {ps:List Prt} {k:Nat} {p:Prt} (h:ps[k]?=some p):EC (ps.take (k+1))=max (EC (ps.take k)) (p.deep+1):=by
 unfold EC;rw[List.take_add_one,h];simp
theorem R9 {a:Nod} {ps:List Prt} {k:Nat} {p:Prt} (h:ps[k]?=some p):Ht a (ps.take (k+1))=Ht a (ps.take k)++p.ns:=by
 unfold Ht;rw[List.take_add_one,h];simp
def SA (a:Nod) (ps:List Prt) (w:World) (k:Nat) (wr:World):Prop:=
 ∃u,Pd wr (w.heap.size+3) u (.int .i64 (EB (ps.take k):Nat)) (.int .i64 (EC (ps.take k):Nat))/\Bn wr w.heap.size u (Ht a (ps.take k))/\(∀b,u.ownBlock=some b->b≠w.heap.size+3/\b≠w.heap.size+1)/\
  Pd wr (w.heap.size+1) (.slice none 0 0) (.int .i64 0) (.int .i64 0)/\Below w.heap.size w wr/\EB (ps.take k)<=1+k*100000/\EC (ps.take k)<=100001/\(Ht a (ps.take k)).length<=1+k*40
theorem GQ (w:World) (x y z:Value):Pd (w.alloc (.cells #[x,y,z] 238)) w.heap.size x y z:=⟨by simp,by simp,by simp,by simp,by simp,by simp,by simp⟩
theorem SA.on {a:Nod} {ps:List Prt} {w X X':World} {k:Nat} (h:SA a ps w k X) (hb:Below X.heap.size X X'):SA a ps w k X':=by
 obtain⟨u,h1,h2,h3,h4,h5,h6⟩:=h;exact⟨u,h1.on hb,h2.on hb,h3,h4.on hb,AC h5 hb,h6⟩
theorem Wj (a:Nod) (ps:List Prt) (w:World):SA a ps w 0 ((((w.alloc (.cells #[.int .i64 a.op,.int .i64 a.n,.string ⟨a.name.toArray⟩,.int .i64 a.pl] 46)).alloc (.cells #[.slice none 0 0,.int .i64 0,.int .i64 0] 238)).alloc
  (.cells #[.int .i64 a.op,.int .i64 a.n,.string ⟨a.name.toArray⟩,.int .i64 a.pl] 46)).alloc (.cells #[.slice (some ⟨w.heap.size+1+1,0,none⟩) 1 1,.int .i64 1,.int .i64 1] 238)):=by
 have b1:Below w.heap.size w (w.alloc (.cells #[.int .i64 a.op,.int .i64 a.n,.string ⟨a.name.toArray⟩,.int .i64 a.pl] 46)):=(Below.refl _ _).alloc (Nat.le_refl _) _;have s1:(w.alloc (.cells #[.int .i64 a.op,.int .i64 a.n,.string ⟨a.name.toArray⟩,.int .i64 a.pl] 46)).heap.size=w.heap.size+1:=by simp
 generalize w.alloc (.cells #[.int .i64 a.op,.int .i64 a.n,.string ⟨a.name.toArray⟩,.int .i64 a.pl] 46)=w1 at *;have b2:Below w1.heap.size w1 (w1.alloc (.cells #[.slice none 0 0,.int .i64 0,.int .i64 0] 238)):=(Below.refl _ _).alloc (Nat.le_refl _) _;have s2:(w1.alloc (.cells #[.slice none 0 0,.int .i64 0,.int .i64 0] 238)).heap.size=w1.heap.size+1:=by simp
 have p2:=GQ w1 (.slice none 0 0) (.int .i64 0) (.int .i64 0);generalize w1.alloc (.cells #[.slice none 0 0,.int .i64 0,.int .i64 0] 238)=w2 at *;have b3:Below w2.heap.size w2 (w2.alloc (.cells #[.int .i64 a.op,.int .i64 a.n,.string ⟨a.name.toArray⟩,.int .i64 a.pl] 46)):=(Below.refl _ _).alloc (Nat.le_refl _) _;have s3:(w2.alloc (.cells #[.int .i64 a.op,.int .i64 a.n,.string ⟨a.name.toArray⟩,.int .i64 a.pl] 46)).heap.size=w2.heap.size+1:=by simp
 have o3:Bn (w2.alloc (.cells #[.int .i64 a.op,.int .i64 a.n,.string ⟨a.name.toArray⟩,.int .i64 a.pl] 46)) w.heap.size (.slice (some ⟨w2.heap.size,0,none⟩) 1 1) [a]:=
  ⟨rfl,.inr ⟨w2.heap.size,1,_,rfl,by omega,heap_alloc_new w2 _,Nat.le_refl _,by decide,rfl,rfl⟩⟩
 generalize w2.alloc (.cells #[.int .i64 a.op,.int .i64 a.n,.string ⟨a.name.toArray⟩,.int .i64 a.pl] 46)=w3 at *;rw[show w.heap.size+1+1=w2.heap.size from by omega];have p4:=GQ w3 (.slice (some ⟨w2.heap.size,0,none⟩) 1 1) (.int .i64 1) (.int .i64 1);have b4:Below w3.heap.size w3 (w3.alloc (.cells #[.slice (some ⟨w2.heap.size,0,none⟩) 1 1,.int .i64 1,.int .i64 1] 238)):=(Below.refl _ _).alloc (Nat.le_refl _) _;generalize w3.alloc (.cells #[.slice (some ⟨w2.heap.size,0,none⟩) 1 1,.int .i64 1,.int .i64 1] 238)=w4 at *
 refine⟨.slice (some ⟨w2.heap.size,0,none⟩) 1 1,?_,o3.on b4,?_,?_,AC b1 (AC b2 (AC b3 b4)),by simp[EB],by simp[EC],by simp[Ht]⟩
 ·rw[show w.heap.size+3=w3.heap.size from by omega];exact p4
 ·intro b hb;simp[Value.ownBlock]at hb;omega
 ·rw[show w.heap.size+1=w1.heap.size from by omega];exact(p2.on b3).on b4
theorem SB {a:Nod} {ps:List Prt} {w X:World} {k:Nat} {p:Prt} {u v' x0 y0 y z:Value} (hp:ps[k]?=some p) (hf:QK p) (h3:Pd X (w.heap.size+3) u x0 y0) (hown:Bn X w.heap.size v' (Ht a (ps.take k)++p.ns)) (hb:∀b,v'.ownBlock=some b->b≠w.heap.size+3/\b≠w.heap.size+1)
  (h1:Pd X (w.heap.size+1) (.slice none 0 0) (.int .i64 0) (.int .i64 0)) (hw:Below w.heap.size w X) (hm:EB (ps.take k)<=1+k*100000) (hd:EC (ps.take k)<=100001) (hl:(Ht a (ps.take k)).length<=1+k*40)
  (hy:.int .i64 (EB (ps.take (k+1)):Nat)=y) (hz:.int .i64 (EC (ps.take (k+1)):Nat)=z):
  SA a ps w (k+1) (((X.setCell ⟨w.heap.size+3,0,none⟩ v').setCell ⟨w.heap.size+3,1,none⟩ y).setCell ⟨w.heap.size+3,2,none⟩ z):=by
 subst hy;subst hz;obtain⟨f1,f2,f3⟩:=hf;refine⟨v',h3.set v' _ _,?_,hb,((h1.away (by omega)).away (by omega)).away (by omega),((hw.setCell (by show _<=_+3;omega) _).setCell (by show _<=_+3;omega) _).setCell (by show _<=_+3;omega) _,?_,?_,?_⟩
 ·rw[R9 hp];exact hown.away (fun b hb'=>(hb b hb').1) (((Ac.refl _ _).set).set).set
 ·rw[QM hp];omega
 ·rw[Ov hp];omega
 ·rw[R9 hp,List.length_append];omega
theorem info30:(Tryz.prog.info? 46).map (fun i=>(i.zero,i.size,i.bytes))=some (some (.agg #[.int .i64 0,.int .i64 0,.string ⟨#[]⟩,.int .i64 0]),4,40):=by kernel_rfl
def QFz (P:Prt) (w:World) (e:Ending) (w':World):Prop:=∃u,e=.returned (.agg #[u,.int .i64 P.many,.int .i64 P.deep])/\Bn w' w.heap.size u P.ns/\Below w.heap.size w w'
set_option maxRecDepth 100000 in
set_option maxHeartbeats 4000000 in
theorem NI (a:Nod) (vs:Value) (ps:List Prt) (w:World) (h:QL w vs ps) (hl:ps.length<=2) (hf:∀p∈ps,QK p):
  Calls Tryz.prog 238 #[.agg #[.int .i64 a.op,.int .i64 a.n,.string ⟨a.name.toArray⟩,.int .i64 a.pl],vs] w (QFz (FA a ps) w):=by
 obtain⟨i0,hi,hz0,hz1,hz2⟩:=info_parts info30;have HZ:=AA (show Tryz.prog.info? 46=some i0/\i0.zero=some (.agg #[.int .i64 0,.int .i64 0,.string ⟨#[]⟩,.int .i64 0])/\i0.size=4/\i0.bytes=40 from⟨hi,hz0,hz1,hz2⟩);clear hi hz0 hz1 hz2;have HR:=AA h;have HF:=AA hf;obtain⟨A,c,rfl,hc,hr⟩:=h;clear hr hf;go_enter Tryz.func238,Tryz.ntmps238;go_wp2_with fail
 go_loopw [13] (fun i wr=>∃k:Nat,k<=ps.length/\i=.int .i64 k/\SA a ps w k wr) (fun i _=>ps.length-(intOf i).toNat)
 case atStart=>exact⟨0,Nat.zero_le _,rfl,Wj a ps w⟩
 case round=>
  obtain⟨k,hk,rfl,u,hp,hown,hub,hp1,hbel,hm,hd,hlen⟩:=hrel;have HP:=AA hp;have HO:=AA hown;have HU:=AA hub;have HP1:=AA hp1;have HB:=AA hbel;have HM:=AA hm;have HD:=AA hd;have HLE:=AA hlen;have hsz:=hbel.size;obtain⟨g3,cap3,rfl⟩:=R7 hown (by simp[Ht]);clear hown hub hp1;generalize hn3:(Ht a (ps.take k)).length=n3 at *;have HN3:=AA hn3;clear hn3;by_cases hlt:k<ps.length
  ·have hat:ps[k]?=some ps[k]:=List.getElem?_eq_getElem hlt;have hfit:=HF.out _ (List.getElem_mem hlt);have HMS:=AA (QM hat);have HDS:=AA (Ov hat);generalize ps[k]=p at *;obtain⟨A',c',hv',_,hr'⟩:=HR.out.on hbel;obtain⟨rfl,rfl⟩:A=A'/\c=c':=by simp only[Value.slice.injEq]at hv';exact⟨hv'.1,hv'.2.2⟩
   obtain⟨g,u',rfl,hg,x0,x1,x2,hlies⟩:=hr' k p hat;have HAT:=AA hat;have HFIT:=AA hfit;obtain⟨f1,f2,f3⟩:=hfit;clear hr' hv' hbel hat;obtain⟨q0,q1,q2,q3,q4,q5,q6⟩:=hp;generalize hmk:EB (ps.take k)=mk at *;generalize hdk:EC (ps.take k)=dk at *;have HMK:=AA hmk;have HDK:=AA hdk;clear hmk hdk;have E1:Hid (Value.int .i64 (EB (ps.take (k+1)):Nat)=.int .i64 ((mk:Int)+(p.many:Int))):=AA (by rw[HMS.out];congr 1);have E2:Hid (Value.int .i64 (EC (ps.take (k+1)):Nat)=.int .i64 (max (dk:Int) ((p.deep:Int)+1))):=AA (by rw[HDS.out];congr 1;omega);have hk2:k<=2:=by omega
   rcases hlies with⟨hrn,rfl|⟨g2,o2,n2,c2,rfl⟩⟩
   ·have hns:p.ns=[]:=by have:=hrn.len.1;exact List.length_eq_zero_iff.1 this.symm
    have HNS:=AA hns;clear hrn hns;go_wp2_with (at_builtin;refine wpList_append_own_none rfl (.tmp 18) (.tmp 20) 42 rfl w.heap.size 46 i0 4 Tryz.underlying42 HZ.out.1 (.slice (some ⟨g3,0,none⟩) n3 cap3) _ (DR (Ht a (ps.take k))) rfl (HO.out.on ((Below.refl _ _).alloc (Nat.le_refl _) _)) rfl ?_)
    go_roundw;case rel=>exact⟨k+1,by omega,by go_num,(SB HAT.out HFIT.out HP.out (by rw[HNS.out,List.append_nil];exact HO.out) HU.out HP1.out HB.out (by rw[HMK.out];exact HM.out) (by rw[HDK.out];exact HD.out) (by rw[HN3.out];exact HLE.out) E1.out E2.out).on ((Below.refl _ _).alloc (Nat.le_refl _) _)⟩
    case measure=>simp[intOf];omega
   ·have hlen2:=hrn.len;obtain⟨hn2,_,_⟩:=hlen2;have hnl:n2<=40:=by omega
    have HN2:=AA hn2;have HRN:=AA hrn;clear hrn hn2;go_wp2_with (at_builtin;refine wpList_append_own_at _ rfl (.tmp 18) (.tmp 20) 42 rfl w.heap.size 46 i0 (.agg #[.int .i64 0,.int .i64 0,.string ⟨#[]⟩,.int .i64 0]) 4 40 Tryz.underlying42 HZ.out.1 HZ.out.2.1 HZ.out.2.2.1 HZ.out.2.2.2 rfl (by decide) (.slice (some ⟨g3,0,none⟩) n3 cap3) n3 (DR (Ht a (ps.take k))) rfl ?cO ⟨g2,o2,none⟩ n2 c2 (DR p.ns) rfl ?c0 ?c1 ?c2 ?c3 ?c4 ?c5 ?_)
    case cO=>
     have ho:=HO.out.on ((Below.refl _ _).alloc (Nat.le_refl _) (.cells #[.slice (some ⟨g2,o2,none⟩) n2 c2,.int .i64 p.many,.int .i64 p.deep] 238));unfold Bn at ho;rw[HN3.out]at ho;exact ho
    case c0=>rw[Pz,HN2.out]
    case c1=>exact ZS (HRN.out.on ((Below.refl _ _).alloc (Nat.le_refl _) _))
    case c2=>exact TU _
    case c3=>unfold maxLen;omega
    case c4=>omega
    case c5=>simp;omega
    intro v' w3 hown' hgrow _ hwhere;have hl3:=(Ba HO.out g3 rfl).2;have hu3:=HU.out g3 rfl;have PA:=(HP.out.on ((Below.refl _ _).alloc (Nat.le_refl _) (.cells #[.slice (some ⟨g2,o2,none⟩) n2 c2,.int .i64 p.many,.int .i64 p.deep] 238))).grown hgrow (by show some (w.heap.size+3)≠some g3;simp;omega);have PB:=(HP1.out.on ((Below.refl _ _).alloc (Nat.le_refl _) (.cells #[.slice (some ⟨g2,o2,none⟩) n2 c2,.int .i64 p.many,.int .i64 p.deep] 238))).grown hgrow (by show some (w.heap.size+1)≠some g3;simp;omega);have PC:=(GQ wr (.slice (some ⟨g2,o2,none⟩) n2 c2) (.int .i64 p.many) (.int .i64 p.deep)).grown hgrow (by show some wr.heap.size≠some g3;simp;omega)
    have hOV:Bn w3 w.heap.size v' (Ht a (ps.take k)++p.ns):=by
     unfold Bn;rw[MA,List.length_append,HN3.out,<-HN2.out];exact hown'
    have hBV:Below w.heap.size w w3:=(HB.out.alloc hsz _).grown hgrow (by simp;omega) (fun b hb=>by
     have:b=g3:=by simpa[Value.ownBlock]using hb.symm
     subst this;exact(Ba HO.out _ rfl).1)
    have hUV:∀b,v'.ownBlock=some b->b≠w.heap.size+3/\b≠w.heap.size+1:=by
     intro b hb;rcases hwhere with h|h
     ·rw[h]at hb;exact HU.out b hb
     ·rw[h]at hb;have:b=wr.heap.size+1:=by simpa using hb.symm
      have:=HP.out.lt;omega
    obtain⟨g5,cap5,rfl⟩:=R7 hOV (by simp[Ht]);generalize hn5:(Ht a (ps.take k)++p.ns).length=n5 at *;have HN5:=AA hn5;have HPA:=AA PA;have HPB:=AA PB;have HOV:=AA hOV;have HBV:=AA hBV;have HUV:=AA hUV;obtain⟨q0',q1',q2',q3',q4',q5',q6'⟩:=PA;obtain⟨r0',r1',r2',r3',r4',r5',r6'⟩:=PC;clear hOV hBV hUV hown' hgrow hwhere PB q0 q1 q2 q3 q4 q5 q6 x0 x1 x2 hn5 hu3 hl3;have hne:¬wr.heap.size=w.heap.size+3:=by have:=HP.out.lt;omega
    go_wp2_with fail
    go_roundw;case rel=>exact⟨k+1,by omega,by go_num,SB HAT.out HFIT.out HPA.out HOV.out HUV.out HPB.out HBV.out (by rw[HMK.out];exact HM.out) (by rw[HDK.out];exact HD.out) (by rw[HN3.out];exact HLE.out) E1.out E2.out⟩
    case measure=>simp[intOf];omega
  ·have hks:ps.take k=ps:=List.take_of_length_le (by omega);rw[hks]at HP HO HM HD HN3 hp;generalize hmk:EB ps=mk at *;generalize hdk:EC ps=dk at *;have HMK:=AA hmk;have HDK:=AA hdk;clear hks hmk hdk hm hd hlen hbel;obtain⟨q0,q1,q2,q3,q4,q5,q6⟩:=hp;obtain⟨r0,r1,r2,r3,r4,r5,r6⟩:=HP1.out;by_cases h40:mk<=40
   ·have HJ:Hid (FA a ps=⟨Ht a ps,mk,dk⟩):=AA (by unfold FA;rw[HMK.out,HDK.out,if_pos h40]);have hi:¬(40:Int)<(mk:Int):=by omega
    go_wp2_with fail
    refine bodyPost_ret (v:=.agg #[.slice (some ⟨g3,0,none⟩) n3 cap3,.int .i64 mk,.int .i64 dk]) (by simp[results,Tryz.results238,go_sem, *]) rfl ?_;rw[HJ.out];refine⟨_,rfl,HO.out.away (g:=w.heap.size+1) (fun b hb=>(HU.out b hb).2) ?_,?_⟩
    ·exact(((Ac.refl _ _).set).set).set
    ·exact((HB.out.setCell (by show _<=_+1;omega) _).setCell (by show _<=_+1;omega) _).setCell (by show _<=_+1;omega) _
   ·have HJ:Hid (FA a ps=⟨[],mk,dk⟩):=AA (by unfold FA;rw[HMK.out,HDK.out,if_neg h40]);have hi:(40:Int)<(mk:Int):=by omega
    go_wp2_with fail
    refine bodyPost_ret (v:=.agg #[.slice none 0 0,.int .i64 mk,.int .i64 dk]) (by simp[results,Tryz.results238,go_sem, *]) rfl ?_;rw[HJ.out];refine⟨_,rfl,E8 _ _,?_⟩;exact(((HB.out.setCell (by show _<=_+3;omega) _).setCell (by show _<=_+1;omega) _).setCell (by show _<=_+1;omega) _).setCell (by show _<=_+1;omega) _
end Go.Proofs.YthfkpalfopdmhaaGreatDoor
namespace Go.Proofs
open Go.Shelf
def Tryz.lays156_ren:Go.Shelf.Ren:=⟨fun|156=>115|165=>165|166=>56|169=>61|240=>114|241=>202|276=>164|277=>226|n=>n,fun|31=>38|9=>9|3=>3|4=>4|0=>0|20=>20|72=>93|76=>96|70=>91|37=>51|75=>95|127=>145|164=>176|5=>5|80=>102|n=>n,fun|n=>n⟩
theorem Tryz.lays156:Go.Proofs.Lays.n156 Tryz.prog Tryz.lays156_ren:={
 mixed:=by kernel_rfl
 f156:=Tryz.func115.trans (congrArg some (by kernel_rfl))
 f165:=Tryz.func165.trans (congrArg some (by kernel_rfl))
 f166:=Tryz.func56.trans (congrArg some (by kernel_rfl))
 f169:=Tryz.func61.trans (congrArg some (by kernel_rfl))
 f240:=Tryz.func114.trans (congrArg some (by kernel_rfl))
 f241:=Tryz.func202.trans (congrArg some (by kernel_rfl))
 f276:=Tryz.func164.trans (congrArg some (by kernel_rfl))
 f277:=Tryz.func226.trans (congrArg some (by kernel_rfl))
 t0:=Tryz.underlying0
 a0:=Tryz.isAgg0
 z0:=Tryz.sizeOf0
 v0:=Tryz.zeroValue0
 t3:=Tryz.underlying3
 a3:=Tryz.isAgg3
 z3:=Tryz.sizeOf3
 v3:=Tryz.zeroValue3
 t4:=Tryz.underlying4
 a4:=Tryz.isAgg4
 z4:=Tryz.sizeOf4
 v4:=Tryz.zeroValue4
 t9:=Tryz.underlying9
 a9:=Tryz.isAgg9
 z9:=Tryz.sizeOf9
 v9:=Tryz.zeroValue9
 t20:=Tryz.underlying20
 a20:=Tryz.isAgg20
 z20:=Tryz.sizeOf20
 v20:=Tryz.zeroValue20
 t31:=Tryz.underlying38
 a31:=Tryz.isAgg38
 z31:=Tryz.sizeOf38
 v31:=Tryz.zeroValue38
 t37:=Tryz.underlying51
 a37:=Tryz.isAgg51
 z37:=Tryz.sizeOf51
 v37:=Tryz.zeroValue51
 t70:=Tryz.underlying91
 a70:=Tryz.isAgg91
 z70:=Tryz.sizeOf91
 v70:=Tryz.zeroValue91
 t72:=Tryz.underlying93
 a72:=Tryz.isAgg93
 z72:=Tryz.sizeOf93
 v72:=Tryz.zeroValue93
 t75:=Tryz.underlying95
 a75:=Tryz.isAgg95
 z75:=Tryz.sizeOf95
 v75:=Tryz.zeroValue95
 t76:=Tryz.underlying96
 a76:=Tryz.isAgg96
 z76:=Tryz.sizeOf96
 v76:=Tryz.zeroValue96
 t127:=Tryz.underlying145
 a127:=Tryz.isAgg145
 z127:=Tryz.sizeOf145
 v127:=Tryz.zeroValue145
 t164:=Tryz.underlying176
 a164:=Tryz.isAgg176
 z164:=Tryz.sizeOf176
 v164:=Tryz.zeroValue176}
theorem Tryz.Builder_Extra_156:Builder.Extra Tryz.prog Tryz.lays156_ren:={
 sizeBuilder:=by kernel_rfl
 liesBuilder:=by kernel_rfl
 t5:=Tryz.underlying5
 a5:=Tryz.isAgg5
 z5:=Tryz.sizeOf5
 v5:=Tryz.zeroValue5
 infoByte:=by kernel_rfl
 cellsByte:=by kernel_rfl
 sizeByte:=by kernel_rfl
 neB5:=by decide}
open Go.RowKit in
theorem Tryz.strings_Join (bk o c:Nat) (xs:List ByteArray) (sep:ByteArray) (w:World) (hcells:∀(j:Nat) x,xs[j]?=some x->w.cell? ⟨bk,o+j,none⟩=some (.string x)) (hbk:bk<w.heap.size) (hN:xs.length<=140737488355328) (hcap:xs.length<=c) (hlen:(Lib.join (xs.map (·.data.toList)) sep.data.toList).length<=140737488355328):
  Calls Tryz.prog 115 #[.slice (some ⟨bk,o,none⟩) xs.length c,.string sep] w fun e w'=>e=.returned (.string ⟨(Lib.join (xs.map (·.data.toList)) sep.data.toList).toArray⟩)/\Below w.heap.size w w':=Any.strings_Join Tryz.lays156 Tryz.Builder_Extra_156 bk o c xs sep w hcells hbk hN hcap hlen
def Tryz.lays161_ren:Go.Shelf.Ren:=⟨fun|161=>178|231=>209|227=>210|233=>211|235=>212|228=>231|197=>232|151=>233|260=>258|152=>259|137=>168|119=>275|224=>276|225=>277|217=>204|266=>228|n=>n,fun|9=>9|4=>4|3=>3|5=>5|117=>221|116=>220|0=>0|124=>224|105=>250|21=>21|119=>247|46=>283|139=>298|138=>297|n=>n,fun|3=>9|4=>10|n=>n⟩
theorem Tryz.lays161:Go.Proofs.Lays.n161 Tryz.prog Tryz.lays161_ren:={
 mixed:=by kernel_rfl
 f119:=Tryz.func275.trans (congrArg some (by kernel_rfl))
 f137:=Tryz.func168.trans (congrArg some (by kernel_rfl))
 f151:=Tryz.func233.trans (congrArg some (by kernel_rfl))
 f152:=Tryz.func259.trans (congrArg some (by kernel_rfl))
 f161:=Tryz.func178.trans (congrArg some (by kernel_rfl))
 f197:=Tryz.func232.trans (congrArg some (by kernel_rfl))
 f217:=Tryz.func204.trans (congrArg some (by kernel_rfl))
 f224:=Tryz.func276.trans (congrArg some (by kernel_rfl))
 f225:=Tryz.func277.trans (congrArg some (by kernel_rfl))
 f227:=Tryz.func210.trans (congrArg some (by kernel_rfl))
 f228:=Tryz.func231.trans (congrArg some (by kernel_rfl))
 f231:=Tryz.func209.trans (congrArg some (by kernel_rfl))
 f233:=Tryz.func211.trans (congrArg some (by kernel_rfl))
 f235:=Tryz.func212.trans (congrArg some (by kernel_rfl))
 f260:=Tryz.func258.trans (congrArg some (by kernel_rfl))
 f266:=Tryz.func228.trans (congrArg some (by kernel_rfl))
 t0:=Tryz.underlying0
 a0:=Tryz.isAgg0
 z0:=Tryz.sizeOf0
 v0:=Tryz.zeroValue0
 t3:=Tryz.underlying3
 a3:=Tryz.isAgg3
 z3:=Tryz.sizeOf3
 v3:=Tryz.zeroValue3
 t4:=Tryz.underlying4
 a4:=Tryz.isAgg4
 z4:=Tryz.sizeOf4
 v4:=Tryz.zeroValue4
 t5:=Tryz.underlying5
 a5:=Tryz.isAgg5
 z5:=Tryz.sizeOf5
 v5:=Tryz.zeroValue5
 t9:=Tryz.underlying9
 a9:=Tryz.isAgg9
 z9:=Tryz.sizeOf9
 v9:=Tryz.zeroValue9
 t21:=Tryz.underlying21
 a21:=Tryz.isAgg21
 z21:=Tryz.sizeOf21
 v21:=Tryz.zeroValue21
 t46:=Tryz.underlying283
 a46:=Tryz.isAgg283
 z46:=Tryz.sizeOf283
 v46:=Tryz.zeroValue283
 t105:=Tryz.underlying250
 a105:=Tryz.isAgg250
 z105:=Tryz.sizeOf250
 v105:=Tryz.zeroValue250
 t116:=Tryz.underlying220
 a116:=Tryz.isAgg220
 z116:=Tryz.sizeOf220
 t117:=Tryz.underlying221
 a117:=Tryz.isAgg221
 z117:=Tryz.sizeOf221
 v117:=Tryz.zeroValue221
 t119:=Tryz.underlying247
 a119:=Tryz.isAgg247
 z119:=Tryz.sizeOf247
 t124:=Tryz.underlying224
 a124:=Tryz.isAgg224
 z124:=Tryz.sizeOf224
 v124:=Tryz.zeroValue224
 t138:=Tryz.underlying297
 a138:=Tryz.isAgg297
 z138:=Tryz.sizeOf297
 v138:=Tryz.zeroValue297
 t139:=Tryz.underlying298
 a139:=Tryz.isAgg298
 z139:=Tryz.sizeOf298
 v139:=Tryz.zeroValue298
 g3:=by kernel_rfl
 g4:=by kernel_rfl}
open Go.RowKit in
theorem Tryz.strings_TrimLeft_one (s:ByteArray) (c:UInt8) (hc:c.toNat<128) (w:World):
  Calls Tryz.prog 178 #[.string s,.string ⟨#[c]⟩] w fun e w'=>e=.returned (.string ⟨(Lib.trimLeftB s.data.toList c).toArray⟩)/\w'=w:=Any.strings_TrimLeft_one Tryz.lays161 s c hc w
def Tryz.lays103_ren:Go.Shelf.Ren:=⟨fun|103=>213|210=>234|206=>128|n=>n,fun|9=>9|4=>4|24=>225|3=>3|n=>n,fun|n=>n⟩
theorem Tryz.lays103:Go.Proofs.Lays.n103 Tryz.prog Tryz.lays103_ren:={
 mixed:=by kernel_rfl
 f103:=Tryz.func213.trans (congrArg some (by kernel_rfl))
 f206:=Tryz.func128.trans (congrArg some (by kernel_rfl))
 f210:=Tryz.func234.trans (congrArg some (by kernel_rfl))
 t3:=Tryz.underlying3
 a3:=Tryz.isAgg3
 z3:=Tryz.sizeOf3
 v3:=Tryz.zeroValue3
 t4:=Tryz.underlying4
 a4:=Tryz.isAgg4
 z4:=Tryz.sizeOf4
 v4:=Tryz.zeroValue4
 t9:=Tryz.underlying9
 a9:=Tryz.isAgg9
 z9:=Tryz.sizeOf9
 v9:=Tryz.zeroValue9
 t24:=Tryz.underlying225
 a24:=Tryz.isAgg225
 z24:=Tryz.sizeOf225
 v24:=Tryz.zeroValue225}
open Go.RowKit in
theorem Tryz.strings_CutPrefix (s p:ByteArray) (w:World):
  Calls Tryz.prog 213 #[.string s,.string p] w fun e w'=>e=.returned (.tuple #[.string ⟨(Lib.trimPrefix s.data.toList p.data.toList).toArray⟩,.bool (Lib.hasPrefix s.data.toList p.data.toList)])/\w'=w:=Any.strings_CutPrefix Tryz.lays103 s p w
def Tryz.lays99_ren:Go.Shelf.Ren:=⟨fun|99=>72|206=>128|n=>n,fun|9=>9|4=>4|3=>3|n=>n,fun|n=>n⟩
theorem Tryz.lays99:Go.Proofs.Lays.n99 Tryz.prog Tryz.lays99_ren:={
 mixed:=by kernel_rfl
 f99:=Tryz.func72.trans (congrArg some (by kernel_rfl))
 f206:=Tryz.func128.trans (congrArg some (by kernel_rfl))
 t3:=Tryz.underlying3
 a3:=Tryz.isAgg3
 z3:=Tryz.sizeOf3
 v3:=Tryz.zeroValue3
 t4:=Tryz.underlying4
 a4:=Tryz.isAgg4
 z4:=Tryz.sizeOf4
 v4:=Tryz.zeroValue4
 t9:=Tryz.underlying9
 a9:=Tryz.isAgg9
 z9:=Tryz.sizeOf9
 v9:=Tryz.zeroValue9}
open Go.RowKit Go.Lib in
theorem Tryz.strings_HasPrefix (s p:ByteArray) (w:World):
  Calls Tryz.prog 72 #[.string s,.string p] w fun e w'=>e=.returned (.bool (Lib.hasPrefix s.data.toList p.data.toList))/\w'=w:=Any.strings_HasPrefix Tryz.lays99 s p w
end Go.Proofs
