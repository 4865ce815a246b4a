/- Texts of the walk, packed. -/
import Derived.Test.YthfkpalfopdmhaaGreatDoorX01
import Derived.WalkMore
import Derived.Deep.Cut
import Derived.Deep.QuietTactic
import Derived.BigQuiet
import Derived.Test.YthfkpalfopdmhaaGreatDoorX00
namespace Go.Proofs.YthfkpalfopdmhaaGreatDoor
open Go.RowKit
theorem AC {w w1 w2:World} (h:Below w.heap.size w w1) (k:Below w1.heap.size w1 w2):Below w.heap.size w w2:=h.trans (k.mono h.size)
theorem EB {W w1:World} (hb:Below W.heap.size W w1):(∀b o,b<W.heap.size→w1.cell? ⟨b,o,none⟩=W.cell? ⟨b,o,none⟩)∧(∀b o,b<W.heap.size→w1.frozen? ⟨b,o,none⟩=W.frozen? ⟨b,o,none⟩):=by
 constructor
 ·intro b o h;have e:({block:=b,off:=o,spot:=none}:Addr).block<W.heap.size:=h;exact hb.cell e
 ·intro b o h;have e:({block:=b,off:=o,spot:=none}:Addr).block<W.heap.size:=h;exact hb.frozen e
theorem Gm {w w1:World} {o:Obj} (hb:Below (w.alloc o).heap.size (w.alloc o) w1):Below w.heap.size w w1:=
 ((Below.refl _ _).alloc (Nat.le_refl _) o).trans (hb.mono (by simp))
theorem F7 {w w1:World} {o:Obj} (hb:Below (w.alloc o).heap.size (w.alloc o) w1) (x0 x1 x2 x3:Value):
  Below w.heap.size w ((((w1.setCell ⟨w.heap.size,0,none⟩ x0).setCell ⟨w.heap.size,1,none⟩ x1).setCell ⟨w.heap.size,2,none⟩ x2).setCell ⟨w.heap.size,3,none⟩ x3):=
 ((((Gm hb).setCell (Nat.le_refl _) _).setCell (Nat.le_refl _) _).setCell (Nat.le_refl _) _).setCell (Nat.le_refl _) _
theorem Vf {w w1:World} (hb:Below w.heap.size w w1) {g:Nat} (hg:w.heap.size≤g) (x0 x1 x2 x3:Value):
  Below w.heap.size w ((((w1.setCell ⟨g,0,none⟩ x0).setCell ⟨g,1,none⟩ x1).setCell ⟨g,2,none⟩ x2).setCell ⟨g,3,none⟩ x3):=
 (((hb.setCell hg _).setCell hg _).setCell hg _).setCell hg _
def BK (t:Tok):List Value:=[.int .i64 t.kind,.string ⟨t.text.toArray⟩,.int .i64 t.n,.int .i64 t.pl]
def EG (L:List Tok):List Value:=L.flatMap BK
theorem UO (L:List Tok) (t:Tok):EG (L++[t])=EG L++BK t:=by simp[EG]
def Lo (w:World) (B:Nat) (v:Value) (L:List Tok):Prop:=w.ownsRow B 67 4 v L.length (EG L)
def SV (f:Found) (w:World) (e:Ending) (w':World):Prop:=
 ∃v,e=.returned (.tuple #[v,.int .i64 f.err,.int .i64 f.pl])∧Lo w' w.heap.size v f.toks∧Below w.heap.size w w'
theorem info31:(Tryz.prog.info? 67).map (fun i=>(i.zero,i.size,i.bytes))=some (some (.agg #[.int .i64 0,.string ⟨#[]⟩,.int .i64 0,.int .i64 0]),4,40):=by kernel_rfl
theorem QEc {w w':World} {B:Nat} {v:Value} {L:List Tok} (h:Lo w B v L) (hb:Below w.heap.size w w'):Lo w' B v L:=by
 obtain⟨h1,h2⟩:=h;refine⟨h1,?_⟩;rcases h2 with h2|⟨g,cap,cur,hv,hg,hh,r⟩
 ·exact .inl h2
 ·exact .inr ⟨g,cap,cur,hv,hg,(hb.block g (Array.getElem?_eq_some_iff.1 hh).1).trans hh,r⟩
theorem YE {l:List UInt8} {k:Nat} {c:UInt8} {L:List Tok} {R:Found} (hd:l.drop k=c::l.drop (k+1)) (hb:Es c=true) (hI:(AS (l.drop k) k).pre L=R):(AS (l.drop (k+1)) (k+1)).pre L=R:=by
 rw[hd,AU _ _ hb]at hI;exact hI
theorem QCp {l:List UInt8} {k:Nat} {c:UInt8} {L:List Tok} {R:Found} (hd:l.drop k=c::l.drop (k+1)) (hb:Es c=false) (hr:EF (l.drop k)=true) (hI:(AS (l.drop k) k).pre L=R):
  (AS (l.drop (k+((l.drop k).takeWhile IF).length)) (k+((l.drop k).takeWhile IF).length)).pre L=R:=by
 rw[←List.drop_drop];rw[hd]at *;rw[JO _ _ hb hr]at hI;exact hI
theorem QCq {l:List UInt8} {k:Nat} {c:UInt8} {L:List Tok} {R:Found} (hd:l.drop k=c::l.drop (k+1)) (hb:Es c=false) (hr:EF (l.drop k)=false) (he:(Ag (l.drop k)).err=0) (hI:(AS (l.drop k) k).pre L=R):
  (AS (l.drop (k+(Ag (l.drop k)).text.length)) (k+(Ag (l.drop k)).text.length)).pre (L++[⟨(Ag (l.drop k)).kind,(Ag (l.drop k)).text,(Ag (l.drop k)).n,k⟩])=R:=by
 rw[←List.drop_drop];rw[hd]at *;rw[Gj _ _ hb hr he,SR]at hI;exact hI
theorem QCr {l:List UInt8} {k:Nat} {c:UInt8} {L:List Tok} {R:Found} (hd:l.drop k=c::l.drop (k+1)) (hb:Es c=false) (hr:EF (l.drop k)=false) (he:(Ag (l.drop k)).err≠0) (hI:(AS (l.drop k) k).pre L=R):
  R=.fail (Ag (l.drop k)).err k:=by
 rw[hd]at *;rw[JP _ _ hb hr he,QAK _ _ _ he]at hI;exact hI.symm
theorem QCs {l:List UInt8} {k:Nat} {L:List Tok} {R:Found} (hd:l.length≤k) (hI:(AS (l.drop k) k).pre L=R):R=.fine L:=by
 rw[List.drop_eq_nil_of_le hd,JM,O0]at hI;simpa using hI.symm
theorem QAO (p:UInt8→Bool) (l:List UInt8):(l.takeWhile p).length≤l.length:=(List.takeWhile_sublist p).length_le
theorem QCt (s:ByteArray) (k:Nat) (h:k<s.size):(s.extract k s.size).size=s.size-k∧∃h0:0<(s.extract k s.size).size,(s.extract k s.size)[0]=s[k]:=by
 have h1:(s.extract k s.size).size=s.size-k:=by simp
 refine⟨h1,by omega,?_⟩;have:=ByteArray.getElem_extract (b:=s) (start:=k) (stop:=s.size) (i:=0) (by rw[h1];omega);simpa using this
def SX (w1:World) (g:Nat) (a b c d e:Value):World:=
 ((((w1.setCell ⟨g,0,none⟩ a).setCell ⟨g,1,none⟩ b).setCell ⟨g,2,none⟩ c).setCell ⟨g,3,none⟩ d).setCell ⟨g,3,none⟩ e
theorem Vg {wr w1:World} {z0 z1 z2 z3:Value} (hb:Below (wr.alloc (.cells #[z0,z1,z2,z3] 67)).heap.size (wr.alloc (.cells #[z0,z1,z2,z3] 67)) w1) (a b c d e:Value):
  (SX w1 wr.heap.size a b c d e).cell? ⟨wr.heap.size,0,none⟩=some a∧(SX w1 wr.heap.size a b c d e).cell? ⟨wr.heap.size,1,none⟩=some b∧(SX w1 wr.heap.size a b c d e).cell? ⟨wr.heap.size,2,none⟩=some c∧
  (SX w1 wr.heap.size a b c d e).cell? ⟨wr.heap.size,3,none⟩=some e∧Below wr.heap.size wr (SX w1 wr.heap.size a b c d e)∧wr.heap.size<(SX w1 wr.heap.size a b c d e).heap.size:=by
 obtain⟨hc,hf⟩:=EB hb;have hz3:wr.heap.size<w1.heap.size:=by have:=hb.size;simp at this;omega
 have d0:=hc wr.heap.size 0 (by simp);have d1:=hc wr.heap.size 1 (by simp);have d2:=hc wr.heap.size 2 (by simp);have d3:=hc wr.heap.size 3 (by simp);unfold SX;refine⟨by simp[go_sem,d0],by simp[go_sem,d1],by simp[go_sem,d2],World.cell?_setCell_same (u:=d) _ _ _ (by simp[go_sem,d3]),(Vf (Gm hb) (Nat.le_refl _) _ _ _ _).setCell (Nat.le_refl _) _,by simp only[World.setCell,Array.size_modify];exact hz3⟩
theorem Q2 {w:World} {B:Nat} {v:Value} {L:List Tok} (h:Lo w B v L):∀g,v.ownBlock=some g→B≤g∧g<w.heap.size:=by
 intro g hg;rcases h.2 with⟨rfl,_⟩|⟨g',cap,cur,rfl,hB,hh,_⟩
 ·simp[Value.ownBlock]at hg
 ·simp[Value.ownBlock]at hg;subst hg;exact⟨hB,(Array.getElem?_eq_some_iff.1 hh).1⟩
theorem SY {w wr W2 w3:World} {v v':Value} {L:List Tok} {t:Tok} {o:Obj} (hO:Lo wr w.heap.size v L) (hB:Below w.heap.size w wr) (hBW:Below wr.heap.size wr W2) (hsz:wr.heap.size<W2.heap.size)
  (hown':w3.ownsRow w.heap.size 67 4 v' (L.length+1) (EG L++BK t)) (hg:(W2.alloc o).grownBy w3 v.ownBlock):
  Lo w3 w.heap.size v' (L++[t])∧Below w.heap.size w w3∧(∀j u,W2.cell? ⟨wr.heap.size,j,none⟩=some u→w3.cell? ⟨wr.heap.size,j,none⟩=some u):=by
 have hz:=hB.size;refine⟨?_,?_,fun j u hu=>?_⟩
 ·unfold Lo;rw[UO,List.length_append];exact hown'
 ·exact((hB.trans (hBW.mono hz)).alloc (by have:=hBW.size;omega) o).grown hg (by simp;have:=hBW.size;omega) (fun k hk=>(Q2 hO k hk).1)
 ·have h1:(W2.alloc o).cell? ⟨wr.heap.size,j,none⟩=some u:=by
   rw[World.cell?_alloc_lt W2 o _ (by exact hsz)];exact hu
  rw[←h1];exact World.cell?_of_block (hg.block _ (by simp;omega) (fun e=>by have:=(Q2 hO _ e.symm).2;simp at this))
theorem YF {W2:World} (t:Tok):∀j u,(BK t)[j]?=some u→(W2.alloc (.cells #[.int .i64 t.kind,.string ⟨t.text.toArray⟩,.int .i64 t.n,.int .i64 t.pl] 67)).cell? ((⟨W2.heap.size,0,none⟩:Addr).add j)=some u:=by
 intro j u hu
 match j,hu with
 |0,hu=>simp[BK]at hu;subst hu;simp[Addr.add]
 |1,hu=>simp[BK]at hu;subst hu;simp[Addr.add]
 |2,hu=>simp[BK]at hu;subst hu;simp[Addr.add]
 |3,hu=>simp[BK]at hu;subst hu;simp[Addr.add]
 |n+4,hu=>simp[BK]at hu
theorem QCu (t:Tok):∀u∈BK t,u.oneCell'=true:=by
 intro u hu;simp[BK]at hu;rcases hu with rfl|rfl|rfl|rfl<;>rfl
theorem Nb {f f':Found} {w w':World} {e:Ending} {v:Value} (he:e=.returned (.tuple #[v,.int .i64 f'.err,.int .i64 f'.pl])) (h:f=f') (ho:Lo w' w.heap.size v f'.toks) (hb:Below w.heap.size w w'):SV f w e w':=by
 subst h;exact⟨v,he,ho,hb⟩
theorem SZ (w:World) (B:Nat):Lo w B (.slice none 0 0) []:=World.ownsRow_nil _ _ _ _
def Gg (w:World) (v:Value) (L:List Tok):Prop:=
 ∃A c,v=.slice A L.length c∧L.length≤c∧(∀i t,L[i]?=some t→∃g,A=some ⟨g,0,none⟩∧g<w.heap.size∧
  w.cell? ⟨g,i*4,none⟩=some (.int .i64 t.kind)∧w.cell? ⟨g,i*4+1,none⟩=some (.string ⟨t.text.toArray⟩)∧w.cell? ⟨g,i*4+2,none⟩=some (.int .i64 t.n)∧w.cell? ⟨g,i*4+3,none⟩=some (.int .i64 t.pl))
theorem O5 (L:List Tok):(EG L).length=4*L.length:=by
 induction L with
 |nil=>rfl
 |cons t L ih=>unfold EG at *;rw[List.flatMap_cons,List.length_append,ih];simp[BK];omega
theorem Q3:∀(L:List Tok) (i:Nat) (t:Tok) (j:Nat) (u:Value),L[i]?=some t→(BK t)[j]?=some u→(EG L)[i*4+j]?=some u
 |[],i,t,j,u,h,_=>by simp at h
 |a::L,0,t,j,u,h,hj=>by
  simp at h;subst h;unfold EG;rw[List.flatMap_cons,List.getElem?_append_left (by have:=(List.getElem?_eq_some_iff.1 hj).1;omega)];simpa using hj
 |a::L,i+1,t,j,u,h,hj=>by
  have ih:=Q3 L i t j u (by simpa using h) hj;unfold EG at *;rw[List.flatMap_cons,List.getElem?_append_right (by simp[BK];omega)];rw[←ih];congr 1;simp[BK];omega
theorem Lo.read {w:World} {B:Nat} {v:Value} {L:List Tok} (h:Lo w B v L):Gg w v L:=by
 rcases h.2 with⟨rfl,h0⟩|⟨g,cap,cur,rfl,hB,hh,hn,hm,hs,hc⟩
 ·have:L=[]:=List.length_eq_zero_iff.1 h0;subst this;exact⟨none,0,rfl,Nat.le_refl _,fun i t h=>by simp at h⟩
 ·refine⟨_,cap,rfl,hn,fun i t hi=>⟨g,rfl,(Array.getElem?_eq_some_iff.1 hh).1,?_⟩⟩;have key:∀j u,(BK t)[j]?=some u→w.cell? ⟨g,i*4+j,none⟩=some u:=by
   intro j u hj;have h1:=Q3 L i t j u hi hj;have hlt:=(List.getElem?_eq_some_iff.1 h1).1;rw[O5]at hlt;rw[cell_of_row w g _ cur 67 (0,0) hh];rw[←hc,List.getElem?_take,if_pos (by omega)]at h1;simpa using h1
  exact⟨key 0 _ rfl,key 1 _ rfl,key 2 _ rfl,key 3 _ rfl⟩
theorem Gg.on {w w':World} {v:Value} {L:List Tok} (h:Gg w v L) (hb:Below w.heap.size w w'):Gg w' v L:=by
 obtain⟨A,c,hv,hc,hr⟩:=h;refine⟨A,c,hv,hc,fun i t hi=>?_⟩;obtain⟨g,hA,hg,h0,h1,h2,h3⟩:=hr i t hi;have e:∀j,w'.cell? ⟨g,j,none⟩=w.cell? ⟨g,j,none⟩:=fun j=>hb.cell (p:=⟨g,j,none⟩) hg
 exact⟨g,hA,Nat.lt_of_lt_of_le hg hb.size,by rw[e];exact h0,by rw[e];exact h1,by rw[e];exact h2,by rw[e];exact h3⟩
theorem AO (w:World) (n:Nat):Below w.heap.size w (w.drewN n):=⟨rfl,rfl,rfl,Nat.le_refl _,fun _ _=>rfl⟩
theorem QGd (w:World) (n m:Nat):(w.drewN n).drewN m=w.drewN (n+m):=World.drewN_drewN _ _ _
theorem Hf (w:World) (n m:Nat):Below w.heap.size w ((w.drewN n).drewN m):=by rw[QGd];exact AO _ _
end Go.Proofs.YthfkpalfopdmhaaGreatDoor
namespace Go.Proofs.YthfkpalfopdmhaaGreatDoor
structure Nod where
 op:Int
 n:Int
 name:List UInt8
 pl:Int
deriving DecidableEq
def BG (op:Int):Option Nat:=if op=1∨op=2 then some 0 else if op=3∨op=4 then some 1 else if 5≤op∧op≤15 then some 2 else none
def JG (op:Int):Int:=match BG op with
 |some t=>t
 |none=> -1
theorem UQ {op:Int} {t:Nat} (h:BG op=some t):t≤2:=by
 unfold BG at h;split at h
 ·simp at h;omega
 ·split at h
  ·simp at h;omega
  ·split at h
   ·simp at h;omega
   ·cases h
theorem Hg {op:Int} {t:Nat} (h:BG op=some t):JG op=t:=by unfold JG;rw[h]
theorem UR {op:Int} (h:BG op=none):JG op= -1:=by unfold JG;rw[h]
theorem GQ {op:Int} {t:Nat} (h:BG op=some t):1≤op∧op≤15:=by
 unfold BG at h;split at h
 ·omega
 ·split at h
  ·omega
  ·split at h
   ·omega
   ·cases h
inductive Ex where
 |leaf (a:Nod)
 |un (a:Nod) (x:Ex)
 |bin (a:Nod) (x y:Ex)
deriving DecidableEq
def Ex.flat:Ex→List Nod
 |.leaf a=>[a]
 |.un a x=>a::x.flat
 |.bin a x y=>a::(x.flat++y.flat)
def Ex.ok:Ex→Prop
 |.leaf a=>BG a.op=some 0
 |.un a x=>BG a.op=some 1∧x.ok
 |.bin a x y=>BG a.op=some 2∧x.ok∧y.ok
def Ex.deep:Ex→Nat
 |.leaf _=>1
 |.un _ x=>x.deep+1
 |.bin _ x y=>max x.deep y.deep+1
def Ex.size:Ex→Nat
 |.leaf _=>1
 |.un _ x=>x.size+1
 |.bin _ x y=>x.size+y.size+1
def Ex.top:Ex→Nod
 |.leaf a=>a
 |.un a _=>a
 |.bin a _ _=>a
theorem B7 (x:Ex):x.flat.length=x.size:=by
 induction x with
 |leaf a=>rfl
 |un a x ih=>simp[Ex.flat,Ex.size,ih]
 |bin a x y ih1 ih2=>simp[Ex.flat,Ex.size,ih1,ih2]
theorem GR (x:Ex):1≤x.size:=by cases x<;>simp[Ex.size]
theorem MN (x:Ex):1≤x.deep:=by cases x<;>simp[Ex.deep]
theorem IQ (x:Ex):x.deep≤x.size:=by
 induction x with
 |leaf a=>exact Nat.le_refl _
 |un a x ih=>simp[Ex.deep,Ex.size];omega
 |bin a x y ih1 ih2=>simp[Ex.deep,Ex.size];omega
theorem YG (x:Ex):∃r,x.flat=x.top::r:=by cases x<;>exact⟨_,rfl⟩
theorem MO (x:Ex):x.flat≠[]:=by obtain⟨r,h⟩:=YG x;rw[h];simp
def FN:Nat→List Nod→Option Nat
 |_,[]=>none
 |m,a::r=>match BG a.op with
  |none=>none
  |some t=>if m+t=0 then some 1 else(FN (m+t-1) r).map (·+1)
def MP (L:List Nod) (i:Int):Int:=if i<0 then -1 else match FN 0 (L.drop i.toNat)with
 |some k=>i+k
 |none=> -1
theorem JU {m:Nat} {a:Nod} (r:List Nod) (h:BG a.op=none):FN m (a::r)=none:=by unfold FN;rw[h]
theorem JV {a:Nod} (r:List Nod) (h:BG a.op=some 0):FN 0 (a::r)=some 1:=by unfold FN;rw[h];rfl
theorem Gn {m t:Nat} {a:Nod} (r:List Nod) (h:BG a.op=some t) (h2:m+t≠0):FN m (a::r)=(FN (m+t-1) r).map (·+1):=by
 rw[FN,h];simp only;rw[if_neg h2]
theorem YH (m:Nat):∀(l:List Nod) (n:Nat),FN (m+n+1) l=(FN n l).bind fun k=>(FN m (l.drop k)).map (·+k):=by
 intro l
 induction l with
 |nil=>intro n;rfl
 |cons a r ih=>
  intro n;cases ht:BG a.op with
  |none=>rw[JU r ht,JU r ht];rfl
  |some t=>
   rw[Gn r ht (by omega)];by_cases h0:n+t=0
   ·obtain⟨rfl,rfl⟩:n=0∧t=0:=by omega
    rw[JV r ht];show(FN m r).map _=(FN m (List.drop 1 (a::r))).map _;rfl
   ·rw[Gn r ht h0,show m+n+1+t-1=m+(n+t-1)+1 from by omega,ih];cases h1:FN (n+t-1) r with
    |none=>rfl
    |some k=>
     show Option.map _ (Option.map _ (FN m (r.drop k)))=Option.map _ (FN m ((a::r).drop (k+1)));rw[List.drop_succ_cons,Option.map_map];rfl
theorem QCw:∀(l:List Nod) (m k:Nat),FN m l=some k→1≤k∧k≤l.length:=by
 intro l
 induction l with
 |nil=>intro m k h;cases h
 |cons a r ih=>
  intro m k h;cases ht:BG a.op with
  |none=>rw[JU r ht]at h;cases h
  |some t=>
   by_cases h0:m+t=0
   ·obtain⟨rfl,rfl⟩:m=0∧t=0:=by omega
    rw[JV r ht]at h;simp at h;simp;omega
   ·rw[Gn r ht h0]at h;cases h1:FN (m+t-1) r with
    |none=>rw[h1]at h;cases h
    |some j=>
     rw[h1]at h;simp at h;have:=ih _ _ h1;simp;omega
theorem Q4 (x:Ex):∀(r:List Nod),x.ok→FN 0 (x.flat++r)=some x.size:=by
 induction x with
 |leaf a=>intro r h;exact JV r h
 |un a x ih=>
  intro r h;show FN 0 (a::(x.flat++r))=_;rw[Gn _ h.1 (by omega)];show Option.map _ (FN 0 _)=_;rw[ih r h.2];rfl
 |bin a x y ih1 ih2=>
  intro r h;show FN 0 (a::(x.flat++y.flat++r))=_;rw[Gn _ h.1 (by omega)];show Option.map _ (FN (0+0+1) _)=_;rw[YH 0 _ 0,List.append_assoc,ih1 _ h.2.1];show Option.map _ (Option.map _ (FN 0 (List.drop x.size (x.flat++(y.flat++r)))))=_;rw[←B7 x,List.drop_left,ih2 _ h.2.2,B7];show some (y.size+x.size+1)=some (x.size+y.size+1);rw[Nat.add_comm y.size]
theorem Vj:∀(l:List Nod) (m k:Nat),FN m l=some k→∃xs:List Ex,xs.length=m+1∧(∀x∈xs,x.ok)∧xs.flatMap Ex.flat=l.take k:=by
 intro l
 induction l with
 |nil=>intro m k h;cases h
 |cons a r ih=>
  intro m k h;cases ht:BG a.op with
  |none=>rw[JU r ht]at h;cases h
  |some t=>
   by_cases h0:m+t=0
   ·obtain⟨rfl,rfl⟩:m=0∧t=0:=by omega
    rw[JV r ht]at h;simp at h;subst h;exact⟨[.leaf a],rfl,fun x hx=>by simp at hx;subst hx;exact ht,rfl⟩
   ·rw[Gn r ht h0]at h;cases h1:FN (m+t-1) r with
    |none=>rw[h1]at h;cases h
    |some j=>
     rw[h1]at h;simp at h;subst h;obtain⟨xs,hl,ho,hf⟩:=ih _ _ h1;have ht2:=UQ ht
     match t,ht,ht2,hl with
     |0,ht,_,hl=>
      refine⟨.leaf a::xs,by simp;omega,fun x hx=>?_,?_⟩
      ·rcases List.mem_cons.1 hx with rfl|hx
       ·exact ht
       ·exact ho x hx
      ·rw[List.flatMap_cons,hf,List.take_succ_cons];rfl
     |1,ht,_,hl=>
      match xs,hl,ho,hf with
      |x::xs,hl,ho,hf=>
       refine⟨.un a x::xs,by simp only[List.length_cons]at hl⊢;omega,fun y hy=>?_,?_⟩
       ·rcases List.mem_cons.1 hy with rfl|hy
        ·exact⟨ht,ho x (by simp)⟩
        ·exact ho y (by simp[hy])
       ·rw[List.flatMap_cons]at hf⊢;rw[List.take_succ_cons,←hf];rfl
     |2,ht,_,hl=>
      match xs,hl,ho,hf with
      |[x],hl,ho,hf=>simp at hl
      |x::y::xs,hl,ho,hf=>
       refine⟨.bin a x y::xs,by simp only[List.length_cons]at hl⊢;omega,fun z hz=>?_,?_⟩
       ·rcases List.mem_cons.1 hz with rfl|hz
        ·exact⟨ht,ho x (by simp),ho y (by simp)⟩
        ·exact ho z (by simp[hz])
       ·rw[List.flatMap_cons,List.flatMap_cons]at hf;rw[List.flatMap_cons,List.take_succ_cons,←hf];simp[Ex.flat]
theorem YI {l:List Nod} {k:Nat} (h:FN 0 l=some k):∃x:Ex,x.ok∧x.flat=l.take k∧x.size=k:=by
 obtain⟨xs,hl,ho,hf⟩:=Vj l 0 k h
 match xs,hl,ho,hf with
 |[x],_,ho,hf=>
  have hk:=QCw l 0 k h;have e:x.flat=l.take k:=by simpa using hf
  refine⟨x,ho x (by simp),e,?_⟩;rw[←B7,e,List.length_take];omega
def JW:Nat→List Nod→Option (Ex×List Nod)
 |0,_=>none
 |_+1,[]=>none
 |f+1,a::r=>match BG a.op with
  |some 0=>some (.leaf a,r)
  |some 1=>match JW f r with
   |some (x,r1)=>some (.un a x,r1)
   |none=>none
  |some 2=>match JW f r with
   |some (x,r1)=>match JW f r1 with
    |some (y,r2)=>some (.bin a x y,r2)
    |none=>none
   |none=>none
  |_=>none
theorem Vk (x:Ex):∀(f:Nat) (r:List Nod),x.ok→x.size≤f→JW f (x.flat++r)=some (x,r):=by
 induction x with
 |leaf a=>
  intro f r h hf;cases f with
  |zero=>simp[Ex.size]at hf
  |succ f=>show JW (f+1) (a::r)=_;rw[JW,show BG a.op=some 0 from h];rfl
 |un a x ih=>
  intro f r h hf;cases f with
  |zero=>simp[Ex.size]at hf
  |succ f=>
   show JW (f+1) (a::(x.flat++r))=_;rw[JW,h.1];simp only;rw[ih f r h.2 (by simp[Ex.size]at hf;omega)]
 |bin a x y ih1 ih2=>
  intro f r h hf;cases f with
  |zero=>simp[Ex.size]at hf
  |succ f=>
   show JW (f+1) (a::(x.flat++y.flat++r))=_;rw[JW,h.1];simp only;rw[List.append_assoc,ih1 f _ h.2.1 (by simp[Ex.size]at hf;omega)];simp only;rw[ih2 f r h.2.2 (by simp[Ex.size]at hf;omega)]
theorem Vl:∀(f:Nat) (l:List Nod) (x:Ex) (r:List Nod),JW f l=some (x,r)→x.ok∧l=x.flat++r:=by
 intro f
 induction f with
 |zero=>intro l x r h;cases h
 |succ f ih=>
  intro l x r h;cases l with
  |nil=>cases h
  |cons a l=>
   unfold JW at h;split at h
   ·rename_i ht
    simp at h;obtain⟨rfl,rfl⟩:=h;exact⟨ht,rfl⟩
   ·rename_i ht
    split at h
    ·rename_i x1 r1 h1
     simp at h;obtain⟨rfl,rfl⟩:=h;obtain⟨i1,rfl⟩:=ih _ _ _ h1;exact⟨⟨ht,i1⟩,rfl⟩
    ·cases h
   ·rename_i ht
    split at h
    ·rename_i x1 r1 h1
     split at h
     ·rename_i y1 r2 h2
      simp at h;obtain⟨rfl,rfl⟩:=h;obtain⟨i1,rfl⟩:=ih _ _ _ h1;obtain⟨i2,rfl⟩:=ih _ _ _ h2;exact⟨⟨ht,i1,i2⟩,by simp[Ex.flat]⟩
     ·cases h
    ·cases h
   ·cases h
def F8 (L:List Nod):Option Ex:=match JW L.length L with
 |some (x,[])=>some x
 |_=>none
theorem Ic {x:Ex} (h:x.ok):F8 x.flat=some x:=by
 unfold F8;have:=Vk x x.flat.length [] h (by rw[B7];exact Nat.le_refl _);rw[List.append_nil]at this;rw[this]
theorem Lq {L:List Nod} {x:Ex} (h:F8 L=some x):x.ok∧L=x.flat:=by
 unfold F8 at h;split at h
 ·rename_i y hy
  simp at h;subst h;have:=Vl _ _ _ _ hy;simpa using this
 ·cases h
theorem YJ {L:List Nod} {x:Ex} (h:F8 L=some x):MP L 0=L.length:=by
 obtain⟨ho,rfl⟩:=Lq h;have:=Q4 x [] ho;rw[List.append_nil]at this;unfold MP;rw[if_neg (by omega)];show(match FN 0 (x.flat.drop 0)with|some k=>(0:Int)+k|none=> -1)=_;rw[List.drop_zero,this,B7];simp
theorem QCx {L:List Nod} (h:F8 L=none):MP L 0≠L.length:=by
 intro e;unfold MP at e;rw[if_neg (by omega)]at e;simp only[Int.toNat_zero,List.drop_zero]at e;cases hc:FN 0 L with
 |none=>rw[hc]at e;simp only at e;omega
 |some k=>
  rw[hc]at e;simp only at e;obtain⟨x,ho,hf,_⟩:=YI hc;rw[List.take_of_length_le (by omega)]at hf;rw[←hf,Ic ho]at h;cases h
theorem QAR {L:List Nod} {i:Int} (h:i<0):MP L i= -1:=by unfold MP;rw[if_pos h]
theorem US (L:List Nod) (i:Nat):MP L i=match FN 0 (L.drop i)with|some k=>((i+k:Nat):Int)|none=> -1:=by
 unfold MP;rw[if_neg (by omega),Int.toNat_natCast];cases FN 0 (L.drop i)<;>simp
theorem drop_cons {L:List Nod} {i:Nat} {a:Nod} (h:L[i]?=some a):L.drop i=a::L.drop (i+1):=by
 obtain⟨hi,e⟩:=List.getElem?_eq_some_iff.1 h;rw[List.drop_eq_getElem_cons hi,e]
end Go.Proofs.YthfkpalfopdmhaaGreatDoor
