/- Texts of the walk, packed. -/
import Derived.Test.YthfkpalfopdmhaaGreatDoorX28
import Derived.Test.YthfkpalfopdmhaaGreatDoorX29
import Derived.Test.YthfkpalfopdmhaaGreatDoorX16
import Derived.Test.YthfkpalfopdmhaaGreatDoorX17
import Derived.Laws.BitsAllLaws
import Derived.Laws.BitsLemmas
import Derived.Test.YthfkpalfopdmhaaGreatDoorX19
import Derived.Test.YthfkpalfopdmhaaGreatDoorX18
import Derived.Test.YthfkpalfopdmhaaGreatDoorX00
namespace Go.Proofs.YthfkpalfopdmhaaGreatDoor
open Go.RowKit
end Go.Proofs.YthfkpalfopdmhaaGreatDoor
namespace Go.Proofs.YthfkpalfopdmhaaGreatDoor
open Go.RowKit
def Av (P:Nat→Prop) (w:World) (B:Nat) (Ts:List TypeId):Prop:=∀q cs T,B≤q→w.heap[q]?=some (.cells cs T (0,0))→T∈Ts→¬P q
theorem Av.sub {P:Nat→Prop} {w:World} {B:Nat} {Ts Us:List TypeId} (h:Av P w B Ts) (hs:∀T∈Us,T∈Ts):Av P w B Us:=fun q cs T hB hh hT=>h q cs T hB hh (hs T hT)
theorem Av.of {P:Nat→Prop} {w:World} {B:Nat} {Ts:List TypeId} (h:∀q,B≤q→q<w.heap.size→¬P q):Av P w B Ts:=fun q _ _ hB hh _=>h q hB (Array.getElem?_eq_some_iff.1 hh).1
theorem Av.none {w:World} {B:Nat} {Ts:List TypeId}:Av (fun _=>False) w B Ts:=fun _ _ _ _ _ _=>id
section
variable {P:Nat→Prop} {w w':World} {B m n:Nat} {T:TypeId} {v:Value} {xs:List Value}
theorem AM (h:w.ownsRow B T m v n xs):∀q,v.ownBlock=some q→B≤q∧∃cs,w.heap[q]?=some (.cells cs T (0,0)):=by
 intro q hq;rcases h.2 with⟨rfl,_⟩|⟨g',cap,cur,rfl,hB,hgg,_⟩
 ·simp[Value.ownBlock]at hq
 ·simp[Value.ownBlock]at hq;subst hq;exact⟨hB,cur,hgg⟩
theorem AW (h:w.ownsRow B T m v n xs) (hk:AG P w w') (hP:∀q,v.ownBlock=some q→¬P q):w'.ownsRow B T m v n xs:=by
 refine⟨h.1,?_⟩;rcases h.2 with h|⟨g',cap,cur,rfl,hB,hgg,r⟩
 ·exact .inl h
 ·exact .inr ⟨g',cap,cur,rfl,hB,by rw[hk.block g' (Array.getElem?_eq_some_iff.1 hgg).1 (hP g' rfl)];exact hgg,r⟩
theorem Gx (h:w.ownsRow B T m v n xs) (hk:AG P w w') (ha:Av P w B [T]):w'.ownsRow B T m v n xs:=
 AW h hk fun q hq=>by
  obtain⟨hB,cs,hh⟩:=AM h q hq;exact ha q cs T hB hh (by simp)
theorem own_base {B':Nat} (h:w.ownsRow B T m v n xs) (hB:B'≤B):w.ownsRow B' T m v n xs:=by
 refine⟨h.1,?_⟩;rcases h.2 with h|⟨g',cap,cur,rfl,hg,r⟩
 ·exact .inl h
 ·exact .inr ⟨g',cap,cur,rfl,Nat.le_trans hB hg,r⟩
theorem AX (h:w.ownsRow B T m v n xs):∃A c,v=.slice A n c∧n≤c∧c≤maxLen∧(0<n→∃g,A=some ⟨g,0,none⟩∧B≤g∧g<w.heap.size∧(∀k,w.frozen? ⟨g,k,none⟩=false)∧∀k u,xs[k]?=some u→w.cell? ⟨g,k,none⟩=some u):=by
 rcases h.2 with⟨rfl,rfl⟩|⟨g,cap,cur,rfl,hB,hh,hn,hm,hs,hc⟩
 ·exact⟨none,0,rfl,Nat.le_refl _,Nat.zero_le _,fun h=>by omega⟩
 ·refine⟨_,cap,rfl,hn,hm,fun _=>⟨g,rfl,hB,(Array.getElem?_eq_some_iff.1 hh).1,fun k=>Lib.frozen_of_heap hh k,fun k u hu=>?_⟩⟩;rw[cell_of_row w g _ cur T (0,0) hh];have hlt:=(List.getElem?_eq_some_iff.1 hu).1;rw[←hc,List.getElem?_take,if_pos (by have:=h.1;omega)]at hu;simpa using hu
theorem U5 (h:w.ownsRow B T m v n xs):xs.length=n*m:=h.1
end
theorem CV {α:Type} {f:α→List Value} {m:Nat} (hf:∀a,(f a).length=m):∀(L:List α) (i:Nat) (a:α) (j:Nat) (u:Value),L[i]?=some a→(f a)[j]?=some u→(L.flatMap f)[i*m+j]?=some u
 |[],i,a,j,u,h,_=>by simp at h
 |b::L,0,a,j,u,h,hj=>by
  simp at h;subst h;have:=(List.getElem?_eq_some_iff.1 hj).1;rw[List.flatMap_cons,List.getElem?_append_left (by omega),Nat.zero_mul,Nat.zero_add];exact hj
 |b::L,i+1,a,j,u,h,hj=>by
  rw[List.flatMap_cons,List.getElem?_append_right (by rw[hf,Nat.succ_mul];omega),hf];rw[show(i+1)*m+j-m=i*m+j by rw[Nat.succ_mul];omega];exact CV hf L i a j u (by simpa using h) hj
theorem CY.keepT {B:Nat} {P:Nat→Prop} {w w':World} {v:Value} {l:List Nod} (h:CY B w v l) (hk:AG P w w') (ha:Av P w B [46]):CY B w' v l:=by
 obtain⟨⟨A,c,hv,h1,h2,h3⟩,h4⟩:=h;subst hv;have key:∀q,(Value.slice A l.length c).ownBlock=some q→w'.heap[q]?=w.heap[q]?∧q<w'.heap.size:=by
  intro q hq;obtain⟨hB,cs,hh⟩:=h4 q hq;have hlt:=(Array.getElem?_eq_some_iff.1 hh).1;exact⟨hk.block q hlt (ha q cs 46 hB hh (by simp)),Nat.lt_of_lt_of_le hlt hk.size⟩
 refine⟨⟨A,c,rfl,h1,h2,fun i t hi=>?_⟩,fun q hq=>?_⟩
 ·obtain⟨g,o,rfl,hg,c0,c1,c2,c3⟩:=h3 i t hi;obtain⟨e1,e2⟩:=key g rfl;have e:∀j,w'.cell? ⟨g,j,none⟩=w.cell? ⟨g,j,none⟩:=fun j=>World.cell?_of_block e1
  exact⟨g,o,rfl,e2,by rw[e,c0],by rw[e,c1],by rw[e,c2],by rw[e,c3]⟩
 ·obtain⟨hB,cs,hh⟩:=h4 q hq;exact⟨hB,cs,by rw[(key q hq).1];exact hh⟩
theorem CY.base {B B':Nat} {w:World} {v:Value} {l:List Nod} (h:CY B w v l) (hB:B'≤B):CY B' w v l:=
 ⟨h.rd,fun q hq=>by obtain⟨h1,h2⟩:=h.blk q hq;exact⟨Nat.le_trans hB h1,h2⟩⟩
theorem Fh.keepT {B:Nat} {P:Nat→Prop} {w w':World} {v:Value} {M:List Stm} (h:Fh w B v M) (hk:AG P w w') (ha:Av P w B [44,46]):Fh w' B v M:=by
 obtain⟨K,h1,h2,h3⟩:=h;have a46:Av P w B [46]:=ha.sub (by simp);exact⟨K,h1,Gx h2 hk (ha.sub (by simp)),fun x hx=>⟨(h3 x hx).1.keepT hk a46,(h3 x hx).2.keepT hk a46⟩⟩
theorem Fh.base {B B':Nat} {w:World} {v:Value} {M:List Stm} (h:Fh w B v M) (hB:B'≤B):Fh w B' v M:=by
 obtain⟨K,h1,h2,h3⟩:=h;exact⟨K,h1,own_base h2 hB,fun x hx=>⟨(h3 x hx).1.base hB,(h3 x hx).2.base hB⟩⟩
theorem Fh.slice {B:Nat} {w:World} {v:Value} {M:List Stm} (h:Fh w B v M):∃A c,v=.slice A M.length c:=by
 obtain⟨K,h1,h2,_⟩:=h;obtain⟨A,c,hv,_⟩:=AX h2;exact⟨A,c,by rw[hv,←h1,List.length_map]⟩
def Bd (c:Cel):List Value:=[.string ⟨c.name.toArray⟩,.int .i64 c.n,.int .i64 c.pl]
def CX (w:World) (B:Nat) (v:Value) (l:List Cel):Prop:=w.ownsRow B 48 3 v l.length (l.flatMap Bd)
def MA (s:List UInt8):Value:=.string ⟨s.toArray⟩
def C9 (w:World) (B:Nat) (v:Value) (l:List (List UInt8)):Prop:=w.ownsRow B 9 1 v l.length (l.map MA)
section
variable {P:Nat→Prop} {w w':World} {B B':Nat} {v:Value}
theorem TO (c:Cel):(Bd c).length=3:=rfl
theorem CX.keepT {l:List Cel} (h:CX w B v l) (hk:AG P w w') (ha:Av P w B [48]):CX w' B v l:=Gx h hk ha
theorem CX.base {l:List Cel} (h:CX w B v l) (hB:B'≤B):CX w B' v l:=own_base h hB
theorem CX.on {l:List Cel} (h:CX w B v l) (hb:Below w.heap.size w w'):CX w' B v l:=AW h (AG.of (P:=fun _=>False) hb) (fun _ _=>id)
theorem Ht (w:World) (B:Nat):CX w B (.slice none 0 0) []:=World.ownsRow_nil _ _ _ _
theorem C9.keepT {l:List (List UInt8)} (h:C9 w B v l) (hk:AG P w w') (ha:Av P w B [9]):C9 w' B v l:=Gx h hk ha
theorem C9.base {l:List (List UInt8)} (h:C9 w B v l) (hB:B'≤B):C9 w B' v l:=own_base h hB
theorem C9.on {l:List (List UInt8)} (h:C9 w B v l) (hb:Below w.heap.size w w'):C9 w' B v l:=AW h (AG.of (P:=fun _=>False) hb) (fun _ _=>id)
theorem Ky (w:World) (B:Nat):C9 w B (.slice none 0 0) []:=World.ownsRow_nil _ _ _ _
theorem CX.reads {l:List Cel} (h:CX w B v l):∃A c,v=.slice A l.length c∧l.length≤c∧c≤maxLen∧∀i x,l[i]?=some x→∃g,A=some ⟨g,0,none⟩∧B≤g∧g<w.heap.size∧
  w.cell? ⟨g,i*3,none⟩=some (.string ⟨x.name.toArray⟩)∧w.cell? ⟨g,i*3+1,none⟩=some (.int .i64 x.n)∧w.cell? ⟨g,i*3+2,none⟩=some (.int .i64 x.pl):=by
 obtain⟨A,c,hv,h1,h2,h3⟩:=AX h;refine⟨A,c,hv,h1,h2,fun i x hi=>?_⟩;obtain⟨g,hA,hB,hg,_,hc⟩:=h3 (by have:=(List.getElem?_eq_some_iff.1 hi).1;omega);exact⟨g,hA,hB,hg,hc _ _ (CV TO l i x 0 _ hi rfl),hc _ _ (CV TO l i x 1 _ hi rfl),hc _ _ (CV TO l i x 2 _ hi rfl)⟩
theorem C9.reads {l:List (List UInt8)} (h:C9 w B v l):∃A c,v=.slice A l.length c∧l.length≤c∧c≤maxLen∧∀i x,l[i]?=some x→∃g,A=some ⟨g,0,none⟩∧B≤g∧g<w.heap.size∧w.cell? ⟨g,i,none⟩=some (.string ⟨x.toArray⟩):=by
 obtain⟨A,c,hv,h1,h2,h3⟩:=AX h;refine⟨A,c,hv,h1,h2,fun i x hi=>?_⟩;obtain⟨g,hA,hB,hg,_,hc⟩:=h3 (by have:=(List.getElem?_eq_some_iff.1 hi).1;omega);exact⟨g,hA,hB,hg,hc _ _ (by rw[List.getElem?_map,hi];rfl)⟩
end
structure Lv where
 l:List Cel
 v:Value
structure Tv where
 t:Thr
 vR:Value
 vB:Value
structure Cv where
 c:Clm
 vE:Value
def EQ (x:Tv):List Value:=[.string ⟨x.t.name.toArray⟩,x.vR,x.vB,.int .i64 x.t.pl]
def GY (x:Cv):List Value:=[x.vE,.int .i64 x.c.pl]
theorem Ol (x:Tv):(EQ x).length=4:=rfl
theorem Xk (x:Cv):(GY x).length=2:=rfl
structure E9 (w:World) (B:Nat) (v:Value) (K:List Lv):Prop where
 row:w.ownsRow B 23 1 v K.length (K.map (·.v))
 sub:∀x∈K,CX w B x.v x.l
structure DY (w:World) (B:Nat) (v:Value) (K:List Tv):Prop where
 row:w.ownsRow B 41 4 v K.length (K.flatMap EQ)
 sub:∀x∈K,C9 w B x.vR x.t.regs∧Fh w B x.vB x.t.body
structure ER (w:World) (B:Nat) (v:Value) (K:List Cv):Prop where
 row:w.ownsRow B 50 2 v K.length (K.flatMap GY)
 sub:∀x∈K,CY B w x.vE x.c.e
def Is (w:World) (B:Nat) (v:Value) (l:List (List Cel)):Prop:=∃K,E9 w B v K∧K.map (·.l)=l
def FT (w:World) (B:Nat) (v:Value) (l:List Thr):Prop:=∃K,DY w B v K∧K.map (·.t)=l
def It (w:World) (B:Nat) (v:Value) (l:List Clm):Prop:=∃K,ER w B v K∧K.map (·.c)=l
section
variable {P:Nat→Prop} {w w':World} {B B':Nat} {v:Value}
theorem E9.keepT {K:List Lv} (h:E9 w B v K) (hk:AG P w w') (ha:Av P w B [23,48]):E9 w' B v K:=⟨Gx h.row hk (ha.sub (by simp)),fun x hx=>(h.sub x hx).keepT hk (ha.sub (by simp))⟩
theorem DY.keepT {K:List Tv} (h:DY w B v K) (hk:AG P w w') (ha:Av P w B [41,9,44,46]):DY w' B v K:=⟨Gx h.row hk (ha.sub (by simp)),fun x hx=>⟨(h.sub x hx).1.keepT hk (ha.sub (by simp)),(h.sub x hx).2.keepT hk (ha.sub (by simp))⟩⟩
theorem ER.keepT {K:List Cv} (h:ER w B v K) (hk:AG P w w') (ha:Av P w B [50,46]):ER w' B v K:=⟨Gx h.row hk (ha.sub (by simp)),fun x hx=>(h.sub x hx).keepT hk (ha.sub (by simp))⟩
theorem E9.base {K:List Lv} (h:E9 w B v K) (hB:B'≤B):E9 w B' v K:=⟨own_base h.row hB,fun x hx=>(h.sub x hx).base hB⟩
theorem DY.base {K:List Tv} (h:DY w B v K) (hB:B'≤B):DY w B' v K:=⟨own_base h.row hB,fun x hx=>⟨(h.sub x hx).1.base hB,(h.sub x hx).2.base hB⟩⟩
theorem ER.base {K:List Cv} (h:ER w B v K) (hB:B'≤B):ER w B' v K:=⟨own_base h.row hB,fun x hx=>(h.sub x hx).base hB⟩
theorem Is.keepT {l:List (List Cel)} (h:Is w B v l) (hk:AG P w w') (ha:Av P w B [23,48]):Is w' B v l:=by obtain⟨K,h1,h2⟩:=h;exact⟨K,h1.keepT hk ha,h2⟩
theorem FT.keepT {l:List Thr} (h:FT w B v l) (hk:AG P w w') (ha:Av P w B [41,9,44,46]):FT w' B v l:=by obtain⟨K,h1,h2⟩:=h;exact⟨K,h1.keepT hk ha,h2⟩
theorem It.keepT {l:List Clm} (h:It w B v l) (hk:AG P w w') (ha:Av P w B [50,46]):It w' B v l:=by obtain⟨K,h1,h2⟩:=h;exact⟨K,h1.keepT hk ha,h2⟩
theorem Is.base {l:List (List Cel)} (h:Is w B v l) (hB:B'≤B):Is w B' v l:=by obtain⟨K,h1,h2⟩:=h;exact⟨K,h1.base hB,h2⟩
theorem FT.base {l:List Thr} (h:FT w B v l) (hB:B'≤B):FT w B' v l:=by obtain⟨K,h1,h2⟩:=h;exact⟨K,h1.base hB,h2⟩
theorem It.base {l:List Clm} (h:It w B v l) (hB:B'≤B):It w B' v l:=by obtain⟨K,h1,h2⟩:=h;exact⟨K,h1.base hB,h2⟩
theorem QI (w:World) (B:Nat):Is w B (.slice none 0 0) []:=⟨[],⟨World.ownsRow_nil _ _ _ _,fun x h=>by cases h⟩,rfl⟩
theorem Jf (w:World) (B:Nat):FT w B (.slice none 0 0) []:=⟨[],⟨World.ownsRow_nil _ _ _ _,fun x h=>by cases h⟩,rfl⟩
theorem QJ (w:World) (B:Nat):It w B (.slice none 0 0) []:=⟨[],⟨World.ownsRow_nil _ _ _ _,fun x h=>by cases h⟩,rfl⟩
theorem E9.on {K:List Lv} (h:E9 w B v K) (hb:Below w.heap.size w w'):E9 w' B v K:=h.keepT (AG.of hb) Av.none
theorem DY.on {K:List Tv} (h:DY w B v K) (hb:Below w.heap.size w w'):DY w' B v K:=h.keepT (AG.of hb) Av.none
theorem ER.on {K:List Cv} (h:ER w B v K) (hb:Below w.heap.size w w'):ER w' B v K:=h.keepT (AG.of hb) Av.none
theorem Is.on {l:List (List Cel)} (h:Is w B v l) (hb:Below w.heap.size w w'):Is w' B v l:=h.keepT (AG.of hb) Av.none
theorem FT.on {l:List Thr} (h:FT w B v l) (hb:Below w.heap.size w w'):FT w' B v l:=h.keepT (AG.of hb) Av.none
theorem It.on {l:List Clm} (h:It w B v l) (hb:Below w.heap.size w w'):It w' B v l:=h.keepT (AG.of hb) Av.none
theorem E9.reads {K:List Lv} (h:E9 w B v K):∃A c,v=.slice A K.length c∧K.length≤c∧c≤maxLen∧∀i x,K[i]?=some x→∃g,A=some ⟨g,0,none⟩∧B≤g∧g<w.heap.size∧w.cell? ⟨g,i,none⟩=some x.v:=by
 obtain⟨A,c,hv,h1,h2,h3⟩:=AX h.row;refine⟨A,c,hv,h1,h2,fun i x hi=>?_⟩;obtain⟨g,hA,hB,hg,_,hc⟩:=h3 (by have:=(List.getElem?_eq_some_iff.1 hi).1;omega);exact⟨g,hA,hB,hg,hc _ _ (by rw[List.getElem?_map,hi];rfl)⟩
theorem DY.reads {K:List Tv} (h:DY w B v K):∃A c,v=.slice A K.length c∧K.length≤c∧c≤maxLen∧∀i x,K[i]?=some x→∃g,A=some ⟨g,0,none⟩∧B≤g∧g<w.heap.size∧
  w.cell? ⟨g,i*4,none⟩=some (.string ⟨x.t.name.toArray⟩)∧w.cell? ⟨g,i*4+1,none⟩=some x.vR∧w.cell? ⟨g,i*4+2,none⟩=some x.vB∧w.cell? ⟨g,i*4+3,none⟩=some (.int .i64 x.t.pl):=by
 obtain⟨A,c,hv,h1,h2,h3⟩:=AX h.row;refine⟨A,c,hv,h1,h2,fun i x hi=>?_⟩;obtain⟨g,hA,hB,hg,_,hc⟩:=h3 (by have:=(List.getElem?_eq_some_iff.1 hi).1;omega);exact⟨g,hA,hB,hg,hc _ _ (CV Ol K i x 0 _ hi rfl),hc _ _ (CV Ol K i x 1 _ hi rfl),hc _ _ (CV Ol K i x 2 _ hi rfl),hc _ _ (CV Ol K i x 3 _ hi rfl)⟩
theorem ER.reads {K:List Cv} (h:ER w B v K):∃A c,v=.slice A K.length c∧K.length≤c∧c≤maxLen∧∀i x,K[i]?=some x→∃g,A=some ⟨g,0,none⟩∧B≤g∧g<w.heap.size∧
  w.cell? ⟨g,i*2,none⟩=some x.vE∧w.cell? ⟨g,i*2+1,none⟩=some (.int .i64 x.c.pl):=by
 obtain⟨A,c,hv,h1,h2,h3⟩:=AX h.row;refine⟨A,c,hv,h1,h2,fun i x hi=>?_⟩;obtain⟨g,hA,hB,hg,_,hc⟩:=h3 (by have:=(List.getElem?_eq_some_iff.1 hi).1;omega);exact⟨g,hA,hB,hg,hc _ _ (CV Xk K i x 0 _ hi rfl),hc _ _ (CV Xk K i x 1 _ hi rfl)⟩
end
structure Pv where
 a:Value
 b:Value
 c:Value
 d:Value
 e:Value
 f:Value
def DU (p:Pv):Value:=.agg #[p.a,p.b,p.c,p.d,p.e,p.f]
def noPv:Pv:=⟨.slice none 0 0,.slice none 0 0,.slice none 0 0,.slice none 0 0,.slice none 0 0,.slice none 0 0⟩
structure CP (w:World) (B:Nat) (v:Pv) (p:Prg):Prop where
 lines:Is w B v.a p.lines
 vols:CX w B v.b p.vols
 locks:CX w B v.c p.locks
 threads:FT w B v.d p.threads
 recs:FT w B v.e p.recs
 claims:It w B v.f p.claims
section
variable {P:Nat→Prop} {w w':World} {B B':Nat} {v:Pv} {p:Prg}
theorem CP.keepT (h:CP w B v p) (hk:AG P w w') (ha:Av P w B [23,48,41,9,44,46,50]):CP w' B v p:=
 ⟨h.lines.keepT hk (ha.sub (by simp)),h.vols.keepT hk (ha.sub (by simp)),h.locks.keepT hk (ha.sub (by simp)),h.threads.keepT hk (ha.sub (by simp)),h.recs.keepT hk (ha.sub (by simp)),h.claims.keepT hk (ha.sub (by simp))⟩
theorem CP.keep (h:CP w B v p) (hk:AG P w w') (hP:∀q,B≤q→q<w.heap.size→¬P q):CP w' B v p:=h.keepT hk (Av.of hP)
theorem CP.on (h:CP w B v p) (hb:Below w.heap.size w w'):CP w' B v p:=h.keepT (AG.of (P:=fun _=>False) hb) Av.none
theorem CP.base (h:CP w B v p) (hB:B'≤B):CP w B' v p:=⟨h.lines.base hB,h.vols.base hB,h.locks.base hB,h.threads.base hB,h.recs.base hB,h.claims.base hB⟩
theorem Ej (w:World) (B:Nat):CP w B noPv noPg:=⟨QI w B,Ht w B,Ht w B,Jf w B,Jf w B,QJ w B⟩
end
end Go.Proofs.YthfkpalfopdmhaaGreatDoor
namespace Go.Proofs.YthfkpalfopdmhaaGreatDoor
open Go.RowKit
def Bl (w:World) (g:Nat) (lv:Value) (i:Int) (p:Pv) (q:Int):Prop:=w.heap[g]?=some (.cells #[lv,.int .i64 i,p.a,p.b,p.c,p.d,p.e,p.f,.int .i64 q] 58 (0,0))
structure S5 (M:List Tok) (B g:Nat) (lv:Value) (i:Nat) (p:Pv) (w:World):Prop where
 blk:∃q:Int,Bl w g lv i p q
 toks:Lo w B lv M
 tabs:Tabs w
 gB:8<g
 BB:8<B
 len:M.length≤10000
 small:Gl M
 il:i≤M.length
section
variable {M:List Tok} {B g i:Nat} {lv:Value} {p:Pv} {w:World} {q:Int}
theorem Bl.lt {j:Int} (h:Bl w g lv j p q):g<w.heap.size:=(Array.getElem?_eq_some_iff.1 h).1
structure C5 (w:World) (g:Nat) (lv:Value) (i:Int) (p:Pv) (q:Int):Prop where
 lt:g<w.heap.size
 c0:w.cell? ⟨g,0,none⟩=some lv
 c1:w.cell? ⟨g,1,none⟩=some (.int .i64 i)
 c2:w.cell? ⟨g,2,none⟩=some p.a
 c3:w.cell? ⟨g,3,none⟩=some p.b
 c4:w.cell? ⟨g,4,none⟩=some p.c
 c5:w.cell? ⟨g,5,none⟩=some p.d
 c6:w.cell? ⟨g,6,none⟩=some p.e
 c7:w.cell? ⟨g,7,none⟩=some p.f
 c8:w.cell? ⟨g,8,none⟩=some (.int .i64 q)
 fz:∀j,w.frozen? ⟨g,j,none⟩=false
theorem Bl.cells {j:Int} (h:Bl w g lv j p q):C5 w g lv j p q:=
 ⟨h.lt,by rw[Lib.cell_of_heap h];rfl,by rw[Lib.cell_of_heap h];rfl,by rw[Lib.cell_of_heap h];rfl,by rw[Lib.cell_of_heap h];rfl,by rw[Lib.cell_of_heap h];rfl,by rw[Lib.cell_of_heap h];rfl,by rw[Lib.cell_of_heap h];rfl,by rw[Lib.cell_of_heap h];rfl,by rw[Lib.cell_of_heap h];rfl,fun k=>Lib.frozen_of_heap h k⟩
theorem S5.lt (h:S5 M B g lv i p w):g<w.heap.size:=by obtain⟨q,hq⟩:=h.blk;exact hq.lt
theorem S5.read (h:S5 M B g lv i p w):Gg w lv M:=h.toks.read
theorem S5.own_ne (h:S5 M B g lv i p w):∀q,lv.ownBlock=some q→q≠g∧q<w.heap.size∧B≤q:=by
 intro q hq;obtain⟨hB,cs,hh⟩:=AM h.toks q hq;obtain⟨_,hb⟩:=h.blk;refine⟨?_,(Array.getElem?_eq_some_iff.1 hh).1,hB⟩;rintro rfl;rw[hb]at hh;simp at hh
theorem S5.put {w':World} {i':Nat} {p':Pv} {q':Int} (h:S5 M B g lv i p w) (hk:AG (fun k=>k=g) w w') (hb:Bl w' g lv i' p' q') (hi:i'≤M.length):S5 M B g lv i' p' w':=
 ⟨⟨q',hb⟩,AW h.toks hk (fun k hk e=>(h.own_ne k hk).1 e),h.tabs.same fun k hk8=>hk.block k (by have:=h.tabs.lt2;omega) (by have:=h.gB;omega),h.gB,h.BB,h.len,h.small,hi⟩
theorem S5.on {w':World} (h:S5 M B g lv i p w) (hb:Below w.heap.size w w'):S5 M B g lv i p w':=by
 obtain⟨q,hq⟩:=h.blk;exact h.put (AG.of hb) (show Bl w' g lv i p q from by unfold Bl;rw[hb.block g hq.lt];exact hq) h.il
theorem S5.set1 {j:Nat} (h:S5 M B g lv i p w) (hj:j≤M.length):S5 M B g lv j p (w.setCell ⟨g,1,none⟩ (.int .i64 j)):=by
 obtain⟨q,hq⟩:=h.blk;have hb:Bl (w.setCell ⟨g,1,none⟩ (.int .i64 j)) g lv j p q:=Am hq;exact h.put AG.set hb hj
theorem S5.set8 (h:S5 M B g lv i p w) (pl:Int):S5 M B g lv i p (w.setCell ⟨g,8,none⟩ (.int .i64 pl))∧Bl (w.setCell ⟨g,8,none⟩ (.int .i64 pl)) g lv i p pl:=by
 obtain⟨q,hq⟩:=h.blk;have hb:Bl (w.setCell ⟨g,8,none⟩ (.int .i64 pl)) g lv i p pl:=Am hq;exact⟨h.put AG.set hb h.il,hb⟩
theorem S5.tok (h:S5 M B g lv i p w) {j:Nat} {t:Tok} (ht:M[j]?=some t):∃b c,lv=.slice (some ⟨b,0,none⟩) M.length c∧M.length≤c∧b<w.heap.size∧w.cell? ⟨b,j*4,none⟩=some (.int .i64 t.kind)∧w.cell? ⟨b,j*4+1,none⟩=some (.string ⟨t.text.toArray⟩)∧w.cell? ⟨b,j*4+2,none⟩=some (.int .i64 t.n)∧w.cell? ⟨b,j*4+3,none⟩=some (.int .i64 t.pl):=by
 obtain⟨A,c,hv,hc,hr⟩:=h.read;obtain⟨b,hA,hb,h0,h1,h2,h3⟩:=hr j t ht;exact⟨b,c,by rw[hv,hA],hc,hb,h0,h1,h2,h3⟩
set_option maxHeartbeats 2000000 in
theorem NQ (h:S5 M B g lv i p w) {q:Bool} (hq:decide (M.length≤i)=q):Calls Tryz.prog 78 #[.pointer (some ⟨g,0,none⟩)] w (fun e w'=>e=.returned (.bool q)∧∃n,w'=w.drewN n):=by
 obtain⟨pl,hb⟩:=h.blk;obtain⟨hgl,c0,c1, -, -, -, -, -, -, -, -⟩:=hb.cells;obtain⟨A,c,rfl,hc,_⟩:=h.read;have HQ:=AA hq;clear h hq hb;go_enter Tryz.func78,Tryz.ntmps78;go_wp2_with fail
 go_quiet (fail)
 go_wp2_with fail
 go_ret;exact⟨AH (by rw[←HQ.out]),_,rfl⟩
set_option maxHeartbeats 2000000 in
theorem MC (h:S5 M B g lv i p w) {q:Bool} (hq:decide (M.length≤i)=q):Calls Tryz.prog 78 #[.pointer (some ⟨g,0,none⟩)] w (AN q w):=
 (NQ h hq).mono fun e w' ⟨h1,n,h2⟩=>⟨h1,by rw[h2];exact AO _ _⟩
set_option maxRecDepth 100000 in
set_option maxHeartbeats 4000000 in
theorem QP (h:S5 M B g lv i p w):Calls Tryz.prog 141 #[.pointer (some ⟨g,0,none⟩)] w (Lp (AT M i) w):=by
 have HS:=AA h;obtain⟨pl,hb⟩:=h.blk;obtain⟨hgl,c0,c1, -, -, -, -, -, -, -, -⟩:=hb.cells;have hlen:=h.len;clear h hb;go_enter Tryz.func141,Tryz.ntmps141;go_wp2_with fail
 go_region_held3 (fun w'=>w'.cell? ⟨g,0,none⟩=some lv∧w'.cell? ⟨g,1,none⟩=some (.int .i64 i)∧Below w.heap.size w w')
  (first|exact⟨c0,c1,Below.refl _ _⟩|exact⟨c0,c1,AD _⟩|exact⟨(hb1.cell (p:=⟨g,0,none⟩) hgl).trans c0,(hb1.cell (p:=⟨g,1,none⟩) hgl).trans c1,AC (AD _) hb1⟩)
  (first|(go_at_call 187;refine(IP lv M i _ (HS.out.on (AD _)).read HS.out.len HS.out.small).mono ?_;rintro e w1 ⟨rfl,hb1⟩))
 go_wp2_with fail
 go_ret;exact⟨rfl,AC (AD w) hb1⟩
def QEz (M:List Tok) (B g:Nat) (lv:Value) (i:Nat) (p:Pv) (er pl:Int) (w:World) (e:Ending) (w':World):Prop:=
 e=.returned (.int .i64 er)∧S5 M B g lv i p w'∧Bl w' g lv i p pl∧AG (fun k=>k=g) w w'
set_option maxRecDepth 100000 in
set_option maxHeartbeats 4000000 in
theorem K3 (h:S5 M B g lv i p w):Calls Tryz.prog 79 #[.pointer (some ⟨g,0,none⟩)] w (QEz M B g lv i p (if i<M.length then 5 else 6) (AT M i) w):=by
 have HS:=AA h;have HP:=AA (QP h);obtain⟨q,hq⟩:∃q,decide (M.length≤i)=q:=⟨_,rfl⟩
 have HQ:=AA hq;obtain⟨er,her⟩:∃er:Int,(if i<M.length then 5 else 6)=er:=⟨_,rfl⟩
 have HE:=AA her;rw[her];clear h hq her;go_enter Tryz.func79,Tryz.ntmps79;go_wp2_with fail
 refine HP.out.mono ?_;rintro e w1 ⟨rfl,hb1⟩;have HS1:=AA (HS.out.on hb1);have HB1:=AA hb1;obtain⟨pl,hb⟩:=HS1.out.blk;obtain⟨hgl,c0,c1, -, -, -, -, -, -,c8,fz⟩:=hb.cells;have f8:=fz 8;clear hb hb1 fz;go_wp2_with fail
 obtain⟨hs2,hb2⟩:=HS1.out.set8 (AT M i);have HS2:=AA hs2;have HK:=AA ((AG.of (P:=fun k=>k=g) HB1.out).trans (AG.set (j:=8) (v:=.int .i64 (AT M i))) (fun _ _ h=>h) (fun _ _ h=>h));have HX:=AA hb2;generalize w1.setCell ⟨g,8,none⟩ (.int .i64 (AT M i))=w2 at *;clear c0 c1 c8 f8 hs2 hb2;refine(MC HS2.out HQ.out).mono ?_;rintro e w3 ⟨rfl,hb3⟩;have HS3:=AA (HS2.out.on hb3);have HX3:Hid (Bl w3 g lv i p (AT M i)):=AA (by unfold Bl;rw[hb3.block g HS2.out.lt];exact HX.out);have HK3:=AA (HK.out.trans (AG.of (P:=fun _=>False) hb3) (R:=fun k=>k=g) (fun _ _ h=>h) (fun _ _ h=>h.elim))
 clear hb3;cases q with
 |true=>
  have he:er=6:=by have h1:=HQ.out;have h2:=HE.out;simp at h1;rw[if_neg (by omega)]at h2;exact h2.symm
  subst he;go_wp2_with fail
  go_ret;exact⟨rfl,HS3.out,HX3.out,HK3.out⟩
 |false=>
  have he:er=5:=by have h1:=HQ.out;have h2:=HE.out;simp at h1;rw[if_pos (by omega)]at h2;exact h2.symm
  subst he;go_wp2_with fail
  go_ret;exact⟨rfl,HS3.out,HX3.out,HK3.out⟩
def QE0 {α:Type} (r:RS α) (ok:α→Nat→World→Prop) (g:Nat) (lv:Value) (p:Pv) (w:World) (e:Ending) (w':World):Prop:=
 AG (fun k=>k=g) w w'∧match r with
 |.ok a j=>e=.returned (.int .i64 0)∧ok a j w'
 |.bad er pl=>e=.returned (.int .i64 er)∧er≠0∧∃i:Int,Bl w' g lv i p pl
theorem Qu (h:S5 M B g lv i p w) {s:List UInt8} {b:Bool} (hb:isB M i s=b) {w':World} (hw:Below w.heap.size w w'):Calls Tryz.prog 77 #[lv,.int .i64 i,.string ⟨s.toArray⟩] w' (AN b w'):=GI hb lv w' (h.on hw).read
set_option maxRecDepth 100000 in
set_option maxHeartbeats 4000000 in
theorem Xr (h:S5 M B g lv i p w) (s:List UInt8):Calls Tryz.prog 186 #[.pointer (some ⟨g,0,none⟩),.string ⟨s.toArray⟩] w (QE0 (Bg M i s) (fun _ j w'=>S5 M B g lv j p w') g lv p w):=by
 have HS:=AA h;obtain⟨pl,hb⟩:=h.blk;obtain⟨hgl,c0,c1, -, -, -, -, -, -, -, -⟩:=hb.cells;have hlen:=h.len;obtain⟨b,hq⟩:∃b,isB M i s=b:=⟨_,rfl⟩
 have HQ:=AA hq;clear h hb hq;go_enter Tryz.func186,Tryz.ntmps186;go_wp2_with fail
 go_region_held3 (fun w'=>w'.cell? ⟨g,0,none⟩=some lv∧w'.cell? ⟨g,1,none⟩=some (.int .i64 i)∧Below w.heap.size w w')
  (first|exact⟨c0,c1,Below.refl _ _⟩|exact⟨c0,c1,AD _⟩|exact⟨(hb1.cell (p:=⟨g,0,none⟩) hgl).trans c0,(hb1.cell (p:=⟨g,1,none⟩) hgl).trans c1,AC (AD _) hb1⟩)
  (first|(go_at_call 77;refine(Qu HS.out HQ.out (AD _)).mono ?_;rintro e w1 ⟨rfl,hb1⟩))
 have HB1:=AA (AC (AD w) hb1);have HS1:=AA (HS.out.on HB1.out);clear hb1 c0 c1;cases b with
 |false=>
  obtain⟨er,her,hne⟩:∃er:Int,(if i<M.length then 5 else 6)=er∧er≠0:=⟨_,rfl,by split<;>decide⟩
  have HM:Hid (Bg M i s=.bad er (AT M i)):=AA (by rw[←her];unfold Bg;rw[if_neg (by rw[HQ.out];simp)];rfl);have HE:=AA her;have HN:=AA hne;clear her hne;go_wp2_with fail
  refine(K3 HS1.out).mono ?_;rw[HE.out];rintro e w2 ⟨rfl,hs2,hb2,hk2⟩;have HK:=AA ((AG.of (P:=fun k=>k=g) HB1.out).trans hk2 (fun _ _ h=>h) (fun _ _ h=>h));have HB2:=AA hb2;clear hs2 hk2 hb2;go_wp2_with fail
  go_ret;rw[HM.out];exact⟨HK.out,rfl,HN.out,i,HB2.out⟩
 |true=>
  have hi:=Bt HQ.out;have HM:Hid (Bg M i s=.ok () (i+1)):=AA (by unfold Bg;rw[if_pos HQ.out]);obtain⟨pl,hb⟩:=HS1.out.blk;obtain⟨hgl1, -,c1, -, -, -, -, -, -, -,fz⟩:=hb.cells;have f1:=fz 1;have hw1:IntKind.i64.wrap ((i:Int)+1)=(i:Int)+1:=IntWalk.i64_in _ (by omega);have HI:Hid (i+1≤M.length):=AA (by omega);clear hb fz hi;go_wp2_with fail
  go_ret;rw[HM.out];have h1:=HS1.out.set1 HI.out;exact⟨(AG.of (P:=fun k=>k=g) HB1.out).trans AG.set (fun _ _ h=>h) (fun _ _ h=>h),rfl,h1⟩
end
end Go.Proofs.YthfkpalfopdmhaaGreatDoor
namespace Go.Proofs.YthfkpalfopdmhaaGreatDoor
open Go.RowKit
section
variable {M:List Tok} {B g i:Nat} {lv:Value} {p:Pv} {w:World}
def VG (M:List Tok) (B g:Nat) (lv:Value) (p:Pv) (r:RS (List UInt8)) (w:World) (e:Ending) (w':World):Prop:=
 AG (fun k=>k=g) w w'∧match r with
 |.ok s j=>e=.returned (.tuple #[.string ⟨s.toArray⟩,.int .i64 0])∧S5 M B g lv j p w'
 |.bad er pl=>e=.returned (.tuple #[.string ⟨#[]⟩,.int .i64 er])∧er≠0∧∃i:Int,Bl w' g lv i p pl
theorem ES {P:Nat→Prop} {w1 w2:World} (h:Below w.heap.size w w1) (k:AG P w1 w2):AG P w w2:=(AG.of (P:=P) h).trans k (fun _ _ h=>h) (fun _ _ h=>h)
theorem Ab {P:Nat→Prop} {w1 w2:World} (h:AG P w w1) (k:Below w1.heap.size w1 w2):AG P w w2:=h.trans (AG.of (P:=P) k) (fun _ _ h=>h) (fun _ _ h=>h)
theorem Ak {P:Nat→Prop} {w1 w2:World} (h:AG P w w1) (k:AG P w1 w2):AG P w w2:=h.trans k (fun _ _ h=>h) (fun _ _ h=>h)
theorem Bl.on {w1:World} {j q:Int} (h:Bl w g lv j p q) (hb:Below w.heap.size w w1):Bl w1 g lv j p q:=by unfold Bl;rw[hb.block g h.lt];exact h
def CJ (M:List Tok):Prop:=∀t∈M,nameB t.text=true→t.kind=1
theorem QE1 (hw:CJ M) {t:Tok} (ht:M[i]?=some t) (h:nameB t.text=true):BW M i=.ok t.text (i+1):=by
 unfold BW nameAt;rw[ht];simp only[hw t (List.mem_of_getElem? ht) h,h,and_self,if_true]
theorem QGi {t:Tok} (ht:M[i]?=some t) (h:nameB t.text=false):BW M i=.bad (if i<M.length then 5 else 6) (AT M i):=by
 unfold BW nameAt;rw[ht];simp[h,badR]
theorem QE2 (h:¬i<M.length):BW M i=.bad (if i<M.length then 5 else 6) (AT M i):=by
 unfold BW nameAt;rw[List.getElem?_eq_none (by omega)];rfl
theorem Rt {w1 w2:World} {a y:Value} {b:Nat} (hg:g<w.heap.size) (hb0:b<w.heap.size) (k:w1.cell? ⟨g,0,none⟩=some a∧w1.cell? ⟨g,1,none⟩=some (.int .i64 i)∧w1.cell? ⟨b,i*4+1,none⟩=some y∧Below w.heap.size w w1) (hb:Below w1.heap.size w1 w2):w2.cell? ⟨g,0,none⟩=some a∧w2.cell? ⟨g,1,none⟩=some (.int .i64 i)∧w2.cell? ⟨b,i*4+1,none⟩=some y∧Below w.heap.size w w2:=by
 obtain⟨k0,k1,k2,kb⟩:=k;have q:∀e j,e<w.heap.size→w2.cell? ⟨e,j,none⟩=w1.cell? ⟨e,j,none⟩:=fun e j he=>hb.cell (p:=⟨e,j,none⟩) (Nat.lt_of_lt_of_le he kb.size)
 exact⟨by rw[q g _ hg,k0],by rw[q g _ hg,k1],by rw[q b _ hb0,k2],AC kb hb⟩
set_option maxRecDepth 100000 in
set_option maxHeartbeats 8000000 in
theorem name5 (h:S5 M B g lv i p w) (hwd:CJ M):Calls Tryz.prog 183 #[.pointer (some ⟨g,0,none⟩)] w (VG M B g lv p (BW M i) w):=by
 have HS:=AA h;obtain⟨pl,hb⟩:=h.blk;obtain⟨hgl,c0,c1, -, -, -, -, -, -, -, -⟩:=hb.cells;have hlen:=h.len;by_cases hi:i<M.length
 ·obtain⟨t,ht⟩:∃t,M[i]?=some t:=⟨M[i],List.getElem?_eq_getElem hi⟩
  obtain⟨b,c,rfl,hc,hb0,_,t1,_,_⟩:=h.tok ht;have hsm:=h.small t (List.mem_of_getElem? ht);have HD:Hid (decide (M.length≤i)=false):=AA (by simp;omega);cases hk:nameB t.text with
  |true=>
   have HN:=AA (QE1 hwd ht hk);have HK:=AA hk;have HI:Hid (i+1≤M.length):=AA (by omega);have hi0:(0:Int)≤(i:Int):=by omega
   have hi1:(i:Int)<(M.length:Int):=by omega
   clear h hb ht hk;rw[HN.out];go_enter Tryz.func183,Tryz.ntmps183;go_wp2_with fail
   go_region_held3 (fun w'=>w'.cell? ⟨g,0,none⟩=some (.slice (some ⟨b,0,none⟩) M.length c)∧w'.cell? ⟨g,1,none⟩=some (.int .i64 i)∧w'.cell? ⟨b,i*4+1,none⟩=some (.string ⟨t.text.toArray⟩)∧Below w.heap.size w w')
    (first|exact⟨c0,c1,t1,Below.refl _ _⟩|exact⟨c0,c1,t1,AD _⟩|exact Rt (w1:=w.drew) hgl hb0 ⟨c0,c1,t1,AD _⟩ hb1|exact Rt hgl hb0 (Rt (w1:=w.drew) hgl hb0 ⟨c0,c1,t1,AD _⟩ hb1) hb2)
    (
     first
     |(go_at_call 78;refine(MC (HS.out.on (AD _)) HD.out).mono ?_;rintro e w1 ⟨rfl,hb1⟩)
     |(go_at_call 103;refine(name_any ⟨t.text.toArray⟩ _ (by show t.text.length≤_;omega)).mono ?_;rw[show(ByteArray.mk t.text.toArray).data.toList=t.text from by simp,HK.out];rintro e w2 ⟨rfl,hb2⟩))
   have HB2:=AA (AC (AC (AD w) hb1) hb2);have HS2:=AA (HS.out.on HB2.out);obtain⟨pl2,hbk⟩:=HS2.out.blk;obtain⟨hgl2,d0,d1, -, -, -, -, -, -, -,fz⟩:=hbk.cells;have f1:=fz 1;have d3:w2.cell? ⟨b,i*4+1,none⟩=some (.string ⟨t.text.toArray⟩):=(HB2.out.cell (p:=⟨b,i*4+1,none⟩) hb0).trans t1;have hb02:b<w2.heap.size:=Nat.lt_of_lt_of_le hb0 HB2.out.size;have hw1:IntKind.i64.wrap ((i:Int)+1)=(i:Int)+1:=IntWalk.i64_in _ (by omega);clear hb1 hb2 c0 c1 t1 hbk fz;go_wp2_with fail
   go_quiet (fail)
   have HS3:=AA (HS2.out.on (AO w2 nq));have HB3:=AA (AC HB2.out (AO w2 nq));obtain⟨pl3,hbk⟩:=HS3.out.blk;obtain⟨hgl3,d0,d1, -, -, -, -, -, -, -,fz⟩:=hbk.cells;have f1:=fz 1;clear hbk fz;go_wp2_with fail
   refine bodyPost_ret (v:=.tuple #[.string ⟨t.text.toArray⟩,.int .i64 0]) (by simp[results,Tryz.results183,go_sem]) rfl ?_;exact⟨ES HB3.out AG.set,rfl,HS3.out.set1 HI.out⟩
  |false=>
   obtain⟨er,her,hne⟩:∃er:Int,(if i<M.length then 5 else 6)=er∧er≠0:=⟨_,rfl,by split<;>decide⟩
   have HN:Hid (BW M i=.bad er (AT M i)):=AA (by rw[QGi ht hk,her]);have HE:=AA her;have HNE:=AA hne;have HK:=AA hk;have hi0:(0:Int)≤(i:Int):=by omega
   have hi1:(i:Int)<(M.length:Int):=by omega
   clear h hb ht hk her hne;rw[HN.out];go_enter Tryz.func183,Tryz.ntmps183;go_wp2_with fail
   go_region_held3 (fun w'=>w'.cell? ⟨g,0,none⟩=some (.slice (some ⟨b,0,none⟩) M.length c)∧w'.cell? ⟨g,1,none⟩=some (.int .i64 i)∧w'.cell? ⟨b,i*4+1,none⟩=some (.string ⟨t.text.toArray⟩)∧Below w.heap.size w w')
    (first|exact⟨c0,c1,t1,Below.refl _ _⟩|exact⟨c0,c1,t1,AD _⟩|exact Rt (w1:=w.drew) hgl hb0 ⟨c0,c1,t1,AD _⟩ hb1|exact Rt hgl hb0 (Rt (w1:=w.drew) hgl hb0 ⟨c0,c1,t1,AD _⟩ hb1) hb2)
    (
     first
     |(go_at_call 78;refine(MC (HS.out.on (AD _)) HD.out).mono ?_;rintro e w1 ⟨rfl,hb1⟩)
     |(go_at_call 103;refine(name_any ⟨t.text.toArray⟩ _ (by show t.text.length≤_;omega)).mono ?_;rw[show(ByteArray.mk t.text.toArray).data.toList=t.text from by simp,HK.out];rintro e w2 ⟨rfl,hb2⟩))
   have HB2:=AA (AC (AC (AD w) hb1) hb2);have HS2:=AA (HS.out.on HB2.out);clear hb1 hb2 c0 c1 t1;go_wp2_with fail
   refine(K3 HS2.out).mono ?_;rw[HE.out];rintro e w3 ⟨rfl,hs3,hb3,hk3⟩;have HK3:=AA (ES HB2.out hk3);have HB3:=AA hb3;clear hs3 hk3 hb3;go_wp2_with fail
   refine bodyPost_ret (v:=.tuple #[.string ⟨#[]⟩,.int .i64 er]) (by simp[results,Tryz.results183,go_sem]) rfl ?_;exact⟨HK3.out,rfl,HNE.out,i,HB3.out⟩
 ·obtain⟨er,her,hne⟩:∃er:Int,(if i<M.length then 5 else 6)=er∧er≠0:=⟨_,rfl,by split<;>decide⟩
  have HN:Hid (BW M i=.bad er (AT M i)):=AA (by rw[QE2 hi,her]);have HE:=AA her;have HNE:=AA hne;have HD:Hid (decide (M.length≤i)=true):=AA (by simp;omega);clear h hb her hne;rw[HN.out];go_enter Tryz.func183,Tryz.ntmps183;go_wp2_with fail
  go_quiet (first|(go_at_call 78;refine Calls.quiet_of (NQ (HS.out.on (AO _ _)) HD.out)))
  have HB2:=AA (AO w nq);have HS2:=AA (HS.out.on HB2.out);clear c0 c1;go_wp2_with fail
  refine(K3 HS2.out).mono ?_;rw[HE.out];rintro e w3 ⟨rfl,hs3,hb3,hk3⟩;have HK3:=AA (ES HB2.out hk3);have HB3:=AA hb3;clear hs3 hk3 hb3;go_wp2_with fail
  refine bodyPost_ret (v:=.tuple #[.string ⟨#[]⟩,.int .i64 er]) (by simp[results,Tryz.results183,go_sem]) rfl ?_;exact⟨HK3.out,rfl,HNE.out,i,HB3.out⟩
def TW (M:List Tok) (B g:Nat) (lv:Value) (p:Pv) (r:RS Cel) (w:World) (e:Ending) (w':World):Prop:=
 AG (fun k=>k=g) w w'∧match r with
 |.ok c j=>e=.returned (.tuple #[.agg #[.string ⟨c.name.toArray⟩,.int .i64 c.n,.int .i64 c.pl],.int .i64 0])∧S5 M B g lv j p w'
 |.bad er pl=>(∃(s:ByteArray) (n q:Int),e=.returned (.tuple #[.agg #[.string s,.int .i64 n,.int .i64 q],.int .i64 er]))∧er≠0∧∃i:Int,Bl w' g lv i p pl
theorem QQ (M:List Tok) (i:Nat):Fj false M i=(BW M i).bind fun s j=>.ok ⟨s,0,AT M i⟩ j:=by
 unfold Fj;simp
theorem Ws {b:Nat} {T:TypeId} {a0 a1 a2:Value} (h:w.heap[b]?=some (.cells #[a0,a1,a2] T (0,0))) (x0 x1 x2:Value):(((w.setCell ⟨b,0,none⟩ x0).setCell ⟨b,1,none⟩ x1).setCell ⟨b,2,none⟩ x2).heap[b]?=some (.cells #[x0,x1,x2] T (0,0)):=Am (Am (Am h))
theorem G4 {b:Nat} (x0 x1 x2:Value):AG (fun k=>k=b) w (((w.setCell ⟨b,0,none⟩ x0).setCell ⟨b,1,none⟩ x1).setCell ⟨b,2,none⟩ x2):=Ak (Ak AG.set AG.set) AG.set
theorem Fp {w1 w2:World} {b:Nat} (h:AG (fun k=>k=g) w w1) (k:AG (fun k=>k=b) w1 w2) (hb:w.heap.size≤b):AG (fun k=>k=g) w w2:=h.trans k (fun _ _ h=>h) (fun k hk e=>by omega)
theorem Bl.off {w1:World} {b:Nat} {j q:Int} (h:Bl w g lv j p q) (k:AG (fun k=>k=b) w w1) (hb:¬g=b):Bl w1 g lv j p q:=by unfold Bl;rw[k.block g h.lt hb];exact h
theorem OE {b:Nat} {T:TypeId} {cs:Array Value} {lv:Value} {j q:Int} (h:Bl w g lv j p q) (hb:w.heap[b]?=some (.cells cs T (0,0))) (hT:T≠58):¬b=g:=by
 rintro rfl;unfold Bl at h;rw[h]at hb;simp at hb;exact hT hb.2.symm
set_option maxRecDepth 100000 in
set_option maxHeartbeats 8000000 in
theorem QER (h:S5 M B g lv i p w) (hwd:CJ M):Calls Tryz.prog 182 #[.pointer (some ⟨g,0,none⟩)] w (TW M B g lv p (Fj false M i) w):=by
 have HB0:Hid (Below w.heap.size w (w.alloc (.cells #[.string ⟨#[]⟩,.int .i64 0,.int .i64 0] 48))):=AA ((Below.refl _ _).alloc (Nat.le_refl _) _);have HS:=AA (h.on HB0.out);have HW:=AA hwd;have HH:=AA h;have HC:=AA (QQ M i);clear h hwd;go_enter Tryz.func182,Tryz.ntmps182;go_wp2_with fail
 obtain⟨b0,hb0⟩:∃b0,w.heap.size=b0:=⟨_,rfl⟩
 have hlt:b0<(w.alloc (.cells #[.string ⟨#[]⟩,.int .i64 0,.int .i64 0] 48)).heap.size:=by simp[hb0]
 have hblk:=heap_alloc_new w (.cells #[.string ⟨#[]⟩,.int .i64 0,.int .i64 0] 48);rw[hb0]at hblk⊢;have HBZ:=AA hb0;clear hb0;generalize w.alloc (.cells #[.string ⟨#[]⟩,.int .i64 0,.int .i64 0] 48)=W at *;refine(QP HS.out).mono ?_;rintro e w1 ⟨rfl,hb1⟩;have HS1:=AA (HS.out.on hb1);have HB1:=AA (AC HB0.out hb1);have hlt1:b0<w1.heap.size:=Nat.lt_of_lt_of_le hlt hb1.size;have HX1:Hid (w1.heap[b0]?=some (.cells #[.string ⟨#[]⟩,.int .i64 0,.int .i64 0] 48 (0,0))):=AA (by rw[hb1.block b0 hlt];exact hblk);obtain⟨pl0,hpl0⟩:=HS1.out.blk;have hneg:¬b0=g:=OE hpl0 HX1.out (by decide);clear hb1 hblk hlt hpl0;go_wp2_with fail
 refine(name5 HS1.out HW.out).mono ?_;intro e w2 hp;obtain⟨hk2,hp⟩:=hp;have HX2:Hid (w2.heap[b0]?=some (.cells #[.string ⟨#[]⟩,.int .i64 0,.int .i64 0] 48 (0,0))):=AA (by rw[hk2.block b0 hlt1 hneg];exact HX1.out);have z0:w2.cell? ⟨b0,0,none⟩=some (.string ⟨#[]⟩):=by rw[Lib.cell_of_heap HX2.out];rfl
 have z1:w2.cell? ⟨b0,1,none⟩=some (.int .i64 0):=by rw[Lib.cell_of_heap HX2.out];rfl
 have z2:w2.cell? ⟨b0,2,none⟩=some (.int .i64 0):=by rw[Lib.cell_of_heap HX2.out];rfl
 have fz0:=Lib.frozen_of_heap HX2.out 0;have fz1:=Lib.frozen_of_heap HX2.out 1;have fz2:=Lib.frozen_of_heap HX2.out 2;have HK2:Hid (AG (fun k=>k=g) w w2):=AA (ES HB1.out hk2);have hbw:w.heap.size≤b0:=by have:=HBZ.out;omega
 have hgb:¬g=b0:=fun e=>hneg e.symm
 cases hn:BW M i with
 |bad er pl=>
  rw[hn]at hp;obtain⟨rfl,hne,i',hb'⟩:=hp;have HNE:=AA hne;have HB':=AA hb';have HR:Hid (Fj false M i=.bad er pl):=AA (by rw[HC.out,hn];rfl);clear hn hk2 hne hb' hlt1;go_wp2_with fail
  have h3:=Ws HX2.out (.string ⟨#[]⟩) (.int .i64 0) (.int .i64 (AT M i));have hk3:=G4 (w:=w2) (b:=b0) (.string ⟨#[]⟩) (.int .i64 0) (.int .i64 (AT M i));generalize((w2.setCell ⟨b0,0,none⟩ (.string ⟨#[]⟩)).setCell ⟨b0,1,none⟩ (.int .i64 0)).setCell ⟨b0,2,none⟩ (.int .i64 (AT M i))=W3 at *;have d0:W3.cell? ⟨b0,0,none⟩=some (.string ⟨#[]⟩):=by rw[Lib.cell_of_heap h3];rfl
  have d1:W3.cell? ⟨b0,1,none⟩=some (.int .i64 0):=by rw[Lib.cell_of_heap h3];rfl
  have d2:W3.cell? ⟨b0,2,none⟩=some (.int .i64 (AT M i)):=by rw[Lib.cell_of_heap h3];rfl
  refine bodyPost_ret (v:=.tuple #[.agg #[.string ⟨#[]⟩,.int .i64 0,.int .i64 (AT M i)],.int .i64 er]) (by simp[results,Tryz.results182,go_sem,d0,d1,d2]) rfl ?_;rw[HR.out];exact⟨Fp HK2.out hk3 hbw,⟨_,_,_,rfl⟩,HNE.out,i',HB'.out.off hk3 hgb⟩
 |ok s j=>
  rw[hn]at hp;obtain⟨rfl,hs2⟩:=hp;have HS2:=AA hs2;have HR:Hid (Fj false M i=.ok ⟨s,0,AT M i⟩ j):=AA (by rw[HC.out,hn];rfl);clear hn hk2 hs2 hlt1;go_wp2_with fail
  have h3:=Ws HX2.out (.string ⟨s.toArray⟩) (.int .i64 0) (.int .i64 (AT M i));have hk3:=G4 (w:=w2) (b:=b0) (.string ⟨s.toArray⟩) (.int .i64 0) (.int .i64 (AT M i));generalize((w2.setCell ⟨b0,0,none⟩ (.string ⟨s.toArray⟩)).setCell ⟨b0,1,none⟩ (.int .i64 0)).setCell ⟨b0,2,none⟩ (.int .i64 (AT M i))=W3 at *;have d0:W3.cell? ⟨b0,0,none⟩=some (.string ⟨s.toArray⟩):=by rw[Lib.cell_of_heap h3];rfl
  have d1:W3.cell? ⟨b0,1,none⟩=some (.int .i64 0):=by rw[Lib.cell_of_heap h3];rfl
  have d2:W3.cell? ⟨b0,2,none⟩=some (.int .i64 (AT M i)):=by rw[Lib.cell_of_heap h3];rfl
  refine bodyPost_ret (v:=.tuple #[.agg #[.string ⟨s.toArray⟩,.int .i64 0,.int .i64 (AT M i)],.int .i64 0]) (by simp[results,Tryz.results182,go_sem,d0,d1,d2]) rfl ?_;rw[HR.out];have HK:=Fp HK2.out hk3 hbw;obtain⟨q,hq⟩:=HS2.out.blk;exact⟨HK,rfl,HH.out.put HK (hq.off hk3 hgb) HS2.out.il⟩
end
end Go.Proofs.YthfkpalfopdmhaaGreatDoor
