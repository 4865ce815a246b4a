/- Texts of the walk, packed. -/
import Derived.Test.YthfkpalfopdmhaaGreatDoorX14
import Derived.Test.YthfkpalfopdmhaaGreatDoorX09
import Derived.Deep.CutRange
import Derived.Deep.RegionHeld3
import Derived.Deep.DrawnRows
import Derived.Test.YthfkpalfopdmhaaGreatDoorX00
namespace Go.Proofs.YthfkpalfopdmhaaGreatDoor
open Go
theorem S9 (L:List Tok) (pl:Int) (i:Nat):Ec L i (DC L 1 pl i):=by
 unfold DC;rw[if_pos rfl];exact Az (Aq L i) fun r j _=>(Az (Ae L j _) fun _ j _=>(Az (BQ L j) fun e j he=>E4 _ ((BQ L _).tq he)).le).le
def Dz (L:List Tok) (i:Nat):RS Stm:=DC L (Ao L i) (AT L i) (if Ao L i=1 then i else i+1)
theorem G8 (L:List Tok) (i:Nat):Ec L i (Dz L i):=by
 unfold Dz;rcases FO L i with h|⟨h1,h2,h3⟩
 ·rw[h,if_pos rfl];exact S9 L _ i
 ·rw[if_neg (by omega)];have:=Uj L (Ao L i) (AT L i) (i+1) (Bt h3);cases hp:DC L (Ao L i) (AT L i) (i+1)with
  |ok a tq=>rw[hp]at this;exact⟨by have:=this.1;omega,this.2⟩
  |bad e p=>rw[hp]at this;exact this
def Ks (L:List Tok) (row:CU):Prop:=∀i d l r,i≤L.length→row i d l=some r→JJ L i r
theorem Hj {L:List Tok} {row:CU} (hr:Ks L row) {i d l:Nat} {r:RS Bk} (h:Bz row L i d l=some r):Ec L i r:=by
 unfold Bz at h;split at h
 ·simp at h;subst h;exact GL (by omega)
 ·rcases RS.obind_some h with⟨_,j,h1,h2⟩|⟨e,p,h1,rfl⟩
  ·have a1:=Ae L i [123];simp at h1;rw[h1]at a1;rcases RS.obind_some h2 with⟨b,j2,h3,h4⟩|⟨e,p,h3,rfl⟩
   ·have a2:=hr _ _ _ _ a1.2 h3;rcases RS.obind_some h4 with⟨_,j3,h5,h6⟩|⟨e,p,h5,rfl⟩
    ·have a3:=Ae L j2 [125];simp at h5;rw[h5]at a3;simp at h6;subst h6;have b1:=a1.1;have b2:=a2.1;have b3:=a3.1;exact⟨by omega,a3.2⟩
    ·have a3:=Ae L j2 [125];simp at h5;rw[h5]at a3;exact a3
   ·exact hr _ _ _ _ a1.2 h3
  ·have a1:=Ae L i [123];simp at h1;rw[h1]at a1;exact a1
theorem Ph {L:List Tok} {row:CU} (hr:Ks L row) {k i d l:Nat} {r:RS Bk} (hi:i≤L.length) (h:Df row L k i d l=some r):JJ L i r:=by
 unfold Df at h;split at h
 ·have:=Hj hr h;cases r with
  |ok b tq=>exact⟨by have:=this.1;omega,this.2⟩
  |bad e p=>exact this
 ·simp at h;subst h;exact⟨Nat.le_refl _,hi⟩
theorem Ja {L:List Tok} {row:CU} (hr:Ks L row) {i d l:Nat} {r:RS V7} (h:GO row L i d l=some r):Ec L i r:=by
 unfold GO at h;split at h
 ·simp at h;subst h;exact GL (by omega)
 ·have a1:=G8 L i;unfold Dz at a1;rcases RS.obind_some h with⟨s,j,h1,h2⟩|⟨e,p,h1,rfl⟩
  ·simp at h1;rw[h1]at a1;have b1:=a1.1;split at h2
   ·rcases RS.obind_some h2 with⟨_,j2,h3,h4⟩|⟨e,p,h3,rfl⟩
    ·have a2:=Ae L j [59];simp at h3;rw[h3]at a2;simp at h4;subst h4;exact⟨by have:=a2.1;omega,a2.2⟩
    ·have a2:=Ae L j [59];simp at h3;rw[h3]at a2;exact a2
   ·rcases RS.obind_some h2 with⟨b,j2,h3,h4⟩|⟨e,p,h3,rfl⟩
    ·have a2:=Hj hr h3;rcases RS.obind_some h4 with⟨e,j3,h5,h6⟩|⟨e,p,h5,rfl⟩
     ·have a3:=Ph hr a2.2 h5;simp at h6;subst h6;have b2:=a2.1;have b3:=a3.1;exact⟨by omega,a3.2⟩
     ·exact Ph hr a2.2 h5
    ·exact Hj hr h3
  ·simp at h1;rw[h1]at a1;exact a1
theorem DI (L:List Tok) (f i d l:Nat):Ci L (f+1) i d l=if isB L i [125]=true then some (.ok .nil i)
  else RS.obind (GO (Ci L f) L i d l) fun o j=>RS.obind (Ci L f j d l) fun r j=>some (.ok (.cons o.s o.b o.e r) j):=rfl
theorem FP (L:List Tok):∀f,Ks L (Ci L f):=by
 intro f
 induction f with
 |zero=>intro i d l r _ h;simp[Ci]at h
 |succ f ih=>
  intro i d l r hi h;rw[DI]at h;split at h
  ·simp at h;subst h;exact⟨Nat.le_refl _,hi⟩
  ·rcases RS.obind_some h with⟨o,j,h1,h2⟩|⟨e,p,h1,rfl⟩
   ·have a1:=Ja ih h1;rcases RS.obind_some h2 with⟨t,j2,h3,h4⟩|⟨e,p,h3,rfl⟩
    ·have a2:=ih _ _ _ _ a1.2 h3;simp at h4;subst h4;have b1:=a1.1;have b2:=a2.1;exact⟨by omega,a2.2⟩
    ·have a2:JJ L j (.bad e p:RS Bk):=ih _ _ _ _ a1.2 h3;exact(show e≠0 from a2)
   ·have a1:Ec L i (.bad e p:RS V7):=Ja ih h1;exact(show e≠0 from a1)
def M4 (row row':CU):Prop:=∀i d l r,row i d l=some r→row' i d l=some r
theorem GA {α β:Type} {o o':Option (RS α)} {k k':α→Nat→Option (RS β)} {r:RS β} (ho:∀r,o=some r→o'=some r) (hk:∀a j,o=some (.ok a j)→∀r,k a j=some r→k' a j=some r) (h:RS.obind o k=some r):RS.obind o' k'=some r:=by
 rcases RS.obind_some h with⟨a,tq,h1,h2⟩|⟨e,p,h1,rfl⟩
 ·rw[ho _ h1];exact hk a tq h1 _ h2
 ·rw[ho _ h1];rfl
theorem Ik {L:List Tok} {row row':CU} (hm:M4 row row') {i d l:Nat} {r:RS Bk} (h:Bz row L i d l=some r):Bz row' L i d l=some r:=by
 unfold Bz at h⊢;split at h
 ·rename_i hc;rw[if_pos hc];exact h
 ·rename_i hc;rw[if_neg hc]
  exact GA (fun _ h=>h) (fun _ j _ _ h=>GA (fun _ h=>hm _ _ _ _ h) (fun _ _ _ _ h=>h) h) h
theorem RR {L:List Tok} {row row':CU} (hm:M4 row row') {k i d l:Nat} {r:RS Bk} (h:Df row L k i d l=some r):Df row' L k i d l=some r:=by
 unfold Df at h⊢;split at h
 ·rename_i hc;rw[if_pos hc];exact Ik hm h
 ·rename_i hc;rw[if_neg hc];exact h
theorem QAu {L:List Tok} {row row':CU} (hm:M4 row row') {i d l:Nat} {r:RS V7} (h:GO row L i d l=some r):GO row' L i d l=some r:=by
 unfold GO at h⊢;split at h
 ·rename_i hc;rw[if_pos hc];exact h
 ·rename_i hc;rw[if_neg hc]
  refine GA (fun _ h=>h) (fun s j _ r h=>?_) h;split at h
  ·rename_i hb;rw[if_pos hb];exact h
  ·rename_i hb;rw[if_neg hb]
   exact GA (fun _ h=>Ik hm h) (fun _ j _ _ h=>GA (fun _ h=>RR hm h) (fun _ _ _ _ h=>h) h) h
theorem TA (L:List Tok):∀f,M4 (Ci L f) (Ci L (f+1)):=by
 intro f
 induction f with
 |zero=>intro i d l r h;simp[Ci]at h
 |succ f ih=>
  intro i d l r h;rw[DI]at h⊢;split at h
  ·rename_i hc;rw[if_pos hc];exact h
  ·rename_i hc;rw[if_neg hc]
   exact GA (fun _ h=>QAu ih h) (fun _ j _ _ h=>GA (fun _ h=>ih _ _ _ _ h) (fun _ _ _ _ h=>h) h) h
theorem Il (L:List Tok) {f g:Nat} (hfg:f≤g):M4 (Ci L f) (Ci L g):=by
 induction g with
 |zero=>
  obtain rfl:f=0:=(by omega)
  exact fun _ _ _ _ h=>h
 |succ g ih=>
  by_cases e:f=g+1
  ·subst e;exact fun _ _ _ _ h=>h
  ·exact fun i d l r h=>TA L g _ _ _ _ (ih (by omega) _ _ _ _ h)
theorem Ac {α β:Type} {o:Option (RS α)} {k:α→Nat→Option (RS β)} (ho:∃r,o=some r) (hk:∀a j,o=some (.ok a j)→∃r,k a j=some r):∃r,RS.obind o k=some r:=by
 obtain⟨r,rfl⟩:=ho;cases r with
 |ok a tq=>exact hk a tq rfl
 |bad e p=>exact⟨_,rfl⟩
def Pj (L:List Tok) (row:CU) (i:Nat):Prop:=∀j d l,i<j→j≤L.length→∃r,row j d l=some r
theorem OT {L:List Tok} {row:CU} {i:Nat} (ht:Pj L row i) {j d l:Nat} (hij:i≤j):∃r,Bz row L j d l=some r:=by
 unfold Bz;split
 ·exact⟨_,rfl⟩
 ·refine Ac ⟨_,rfl⟩ fun _ j2 h=>?_
  have a:=Ae L j [123];simp at h;rw[h]at a;refine Ac (ht _ _ _ (by have:=a.1;omega) a.2) fun b j3 _=>Ac ⟨_,rfl⟩ fun _ j4 _=>⟨_,rfl⟩
theorem Yo {L:List Tok} {row:CU} (hr:Ks L row) {i:Nat} (ht:Pj L row i) {d l:Nat}:∃r,GO row L i d l=some r:=by
 unfold GO;split
 ·exact⟨_,rfl⟩
 ·refine Ac ⟨_,rfl⟩ fun s j h=>?_
  have a:=G8 L i;unfold Dz at a;simp at h;rw[h]at a;have b:=a.1;split
  ·exact Ac ⟨_,rfl⟩ fun _ j2 _=>⟨_,rfl⟩
  ·refine Ac (OT ht (by omega)) fun b j2 h2=>Ac ?_ fun e j3 _=>⟨_,rfl⟩
   have a2:=Hj hr h2;unfold Df;split
   ·exact OT ht (by have:=a2.1;omega)
   ·exact⟨_,rfl⟩
theorem Nv (L:List Tok):∀f i d l,i≤L.length→L.length-i+1≤f→∃r,Ci L f i d l=some r:=by
 intro f
 induction f with
 |zero=>intro i d l _ h;omega
 |succ f ih=>
  intro i d l hi h;rw[DI];split
  ·exact⟨_,rfl⟩
  ·have ht:Pj L (Ci L f) i:=fun j d l h1 h2=>ih j d l h2 (by omega)
   refine Ac (Yo (FP L f) ht) fun o j h1=>?_
   have a:=Ja (FP L f) h1;exact Ac (ht _ _ _ a.1 a.2) fun t j2 _=>⟨_,rfl⟩
def Fe (L:List Tok) (i d l:Nat):RS Bk:=(Bz (Ci L (L.length+1)) L i d l).getD (.bad 0 0)
theorem OU (L:List Tok) (i d l:Nat):Bz (Ci L (L.length+1)) L i d l=some (Fe L i d l):=by
 have:∃r,Bz (Ci L (L.length+1)) L i d l=some r:=by
  unfold Bz;split
  ·exact⟨_,rfl⟩
  ·refine Ac ⟨_,rfl⟩ fun _ j2 h=>?_
   have a:=Ae L i [123];simp at h;rw[h]at a;exact Ac (Nv L _ _ _ _ a.2 (by omega)) fun b j3 _=>Ac ⟨_,rfl⟩ fun _ j4 _=>⟨_,rfl⟩
 obtain⟨r,hr⟩:=this;unfold Fe;rw[hr];rfl
theorem Nw {L:List Tok} {f i d l:Nat} {r:RS Bk} (h:Bz (Ci L f) L i d l=some r):Fe L i d l=r:=by
 have h1:=Ik (Il L (Nat.le_max_left f (L.length+1))) h;have h2:=Ik (Il L (Nat.le_max_right f (L.length+1))) (OU L i d l);rw[h1]at h2;exact(Option.some.inj h2).symm
structure ParsedS where
 stmts:List Stm
 tq:Int
 err:Int
 pl:Int
def QAv (L:List Tok) (i:Int):RS Bk→ParsedS
 |.bad e p=>⟨[],0,e,p⟩
 |.ok b tq=>if 40<b.count then⟨[],0,2,AT L i⟩else⟨b.flat,tq,0,0⟩
def E5 (L:List Tok) (i:Int):ParsedS:=if i<0 then⟨[],0,1,0⟩else QAv L i (Fe L i.toNat 0 0)
def TF (n:Nat) (L:List Tok):Prop:=∀t∈L,t.pl+t.text.length≤n∧0≤t.n∧t.n≤4294967296
theorem Ar {α β:Type} {r:RS α} {k:α→Nat→RS β} {b:β} {j:Nat} (h:r.bind k=.ok b j):∃a i,r=.ok a i∧k a i=.ok b j:=by
 cases r with
 |ok a i=>exact⟨a,i,rfl,h⟩
 |bad e p=>cases h
theorem II {L:List Tok} {i j:Nat} {s:List UInt8} (h:BW L i=.ok s j):nameB s=true:=by
 unfold BW at h;split at h
 ·rename_i hn
  simp at h;rw[←h.1];exact(IV hn).2
 ·unfold badR at h;cases h
theorem LJ {n:Nat} {L:List Tok} {i j:Nat} {l:List Nod} (hn:n≤4000) (hL:TF n L) (h:exprP L i=.ok l j):BZ l=true:=by
 unfold exprP at h;rcases J4 L i with⟨h1,_⟩|⟨x,h1,h2,h3,h4,tq,h5,_⟩
 ·rw[if_neg h1]at h;cases h
 ·rw[h5]at h;simp at h;rw[←h.1,PH h1];have hall:x.flat.all CN=true:=List.all_eq_true.2 fun a ha=>QEk hn hL (h4 a ha)
  rw[hall];simp;omega
theorem QAw {L:List Tok} {i j:Nat} {n:Int} (h:Dc L i=.ok n j):1≤n∧n≤8:=by
 unfold Dc at h;split at h
 ·split at h
  ·split at h
   ·rename_i hc;simp at h;rw[←h.1];exact hc
   ·unfold badR at h;cases h
  ·unfold badR at h;cases h
 ·unfold badR at h;cases h
theorem RU:∀k:Fin 15,1≤k.1→(Ih (k.1:Nat) 114=decide (k.1=1∨k.1=2∨k.1=4))∧(Ih (k.1:Nat) 110=decide (k.1=2∨k.1=3∨k.1=4∨k.1=5∨k.1=6∨k.1=9∨k.1=10))∧(Ih (k.1:Nat) 101=decide (k.1=1∨k.1=3∨k.1=4∨k.1=11∨k.1=14))∧(Ih (k.1:Nat) 102=decide (k.1=4))∧(Ih (k.1:Nat) 107=decide (k.1=12)):=by decide
theorem Hz {x:Stm} {k:Nat} (hk:x.kind=k) (h1:1≤k) (h2:k≤14) (hp:0≤x.pl∧x.pl≤4000)
  (hr:(if k=1∨k=2∨k=4 then nameB x.reg else x.reg.isEmpty)=true)
  (hn:(if k=2∨k=3∨k=4∨k=5∨k=6∨k=9∨k=10 then nameB x.name else x.name.isEmpty)=true)
  (he:(if k=1∨k=3∨k=4∨k=11∨k=14 then BZ x.e else x.e.isEmpty)=true)
  (hf:(if k=4 then BZ x.f else x.f.isEmpty)=true)
  (ht:(if k=12 then decide (1≤x.n)&&decide (x.n≤8)else decide (x.n=0))=true):Dy x=true:=by
 obtain⟨t1,t2,t3,t4,t5⟩:=RU ⟨k,by omega⟩ h1;simp only at t1 t2 t3 t4 t5;unfold Dy;rw[hk,t1,t2,t3,t4,t5];simp only[decide_eq_true_eq];rw[hr,hn,he,hf,ht];simp;omega
theorem J5 {x:Stm} {k:Nat} (hk:x.kind=k) (h:Dy x=true):1≤k∧k≤14∧(0≤x.pl∧x.pl≤4000)∧
  (if k=1∨k=2∨k=4 then nameB x.reg else x.reg.isEmpty)=true∧
  (if k=2∨k=3∨k=4∨k=5∨k=6∨k=9∨k=10 then nameB x.name else x.name.isEmpty)=true∧
  (if k=1∨k=3∨k=4∨k=11∨k=14 then BZ x.e else x.e.isEmpty)=true∧
  (if k=4 then BZ x.f else x.f.isEmpty)=true∧
  (if k=12 then decide (1≤x.n)&&decide (x.n≤8)else decide (x.n=0))=true:=by
 unfold Dy at h;rw[hk]at h;simp only[Bool.and_eq_true,decide_eq_true_eq]at h;obtain⟨⟨⟨⟨⟨⟨⟨⟨h1,h2⟩,h3⟩,h4⟩,h5⟩,h6⟩,h7⟩,h8⟩,h9⟩:=h;obtain⟨t1,t2,t3,t4,t5⟩:=RU ⟨k,by omega⟩ (by show 1≤k;omega);simp only at t1 t2 t3 t4 t5;rw[t1]at h5;rw[t2]at h6;rw[t3]at h7;rw[t4]at h8;rw[t5]at h9;simp only[decide_eq_true_eq]at h5 h6 h7 h8 h9;refine⟨by omega,by omega,⟨h3,h4⟩,h5,h6,h7,h8,?_⟩;split at h9
 ·rename_i hc;rw[if_pos hc];simpa using h9
 ·rename_i hc;rw[if_neg hc];simpa using h9
theorem Hk {x:Stm} (h:Dy x=true):∃k:Nat,x.kind=k∧1≤k∧k≤14:=by
 unfold Dy at h;simp only[Bool.and_eq_true,decide_eq_true_eq]at h;exact⟨x.kind.toNat,by omega,by omega,by omega⟩
theorem Yp {n:Nat} {L:List Tok} {k i j:Nat} {pl:Int} {s:Stm} (hn:n≤4000) (hL:TF n L) (h1:1≤k) (h2:k≤14) (hp:0≤pl∧pl≤4000) (h:DC L k pl i=.ok s j):Dy s=true∧s.kind=k∧s.body=0∧s.els=0:=by
 unfold DC at h;split at h
 ·obtain⟨r,j1,e1,h⟩:=Ar h;obtain⟨_,j2,e2,h⟩:=Ar h;obtain⟨e,j3,e3,h⟩:=Ar h;simp at h;obtain⟨rfl,_⟩:=h;subst k;exact⟨Hz (k:=1) rfl h1 h2 hp (II e1) rfl (LJ hn hL e3) rfl rfl,rfl,rfl,rfl⟩
 split at h
 ·obtain⟨r,j1,e1,h⟩:=Ar h;obtain⟨_,j2,e2,h⟩:=Ar h;obtain⟨e,j3,e3,h⟩:=Ar h;simp at h;obtain⟨rfl,_⟩:=h;subst k;exact⟨Hz (k:=2) rfl h1 h2 hp (II e1) (II e3) rfl rfl rfl,rfl,rfl,rfl⟩
 split at h
 ·obtain⟨r,j1,e1,h⟩:=Ar h;obtain⟨_,j2,e2,h⟩:=Ar h;obtain⟨e,j3,e3,h⟩:=Ar h;simp at h;obtain⟨rfl,_⟩:=h;subst k;exact⟨Hz (k:=3) rfl h1 h2 hp rfl (II e1) (LJ hn hL e3) rfl rfl,rfl,rfl,rfl⟩
 split at h
 ·obtain⟨r,j1,e1,h⟩:=Ar h;obtain⟨_,j2,e2,h⟩:=Ar h;obtain⟨m,j3,e3,h⟩:=Ar h;obtain⟨_,j4,e4,h⟩:=Ar h;obtain⟨e,j5,e5,h⟩:=Ar h;obtain⟨_,j6,e6,h⟩:=Ar h;obtain⟨f,j7,e7,h⟩:=Ar h;simp at h;obtain⟨rfl,_⟩:=h;subst k;exact⟨Hz (k:=4) rfl h1 h2 hp (II e1) (II e3) (LJ hn hL e5) (LJ hn hL e7) rfl,rfl,rfl,rfl⟩
 split at h
 ·rename_i hk
  obtain⟨m,j1,e1,h⟩:=Ar h;simp at h;obtain⟨rfl,_⟩:=h;have hm:=II e1;rcases hk with rfl|rfl|rfl|rfl
  ·exact⟨Hz (k:=5) rfl h1 h2 hp rfl hm rfl rfl rfl,rfl,rfl,rfl⟩
  ·exact⟨Hz (k:=6) rfl h1 h2 hp rfl hm rfl rfl rfl,rfl,rfl,rfl⟩
  ·exact⟨Hz (k:=9) rfl h1 h2 hp rfl hm rfl rfl rfl,rfl,rfl,rfl⟩
  ·exact⟨Hz (k:=10) rfl h1 h2 hp rfl hm rfl rfl rfl,rfl,rfl,rfl⟩
 split at h
 ·rename_i hk
  obtain⟨e,j1,e1,h⟩:=Ar h;simp at h;obtain⟨rfl,_⟩:=h;have hm:=LJ hn hL e1;rcases hk with rfl|rfl
  ·exact⟨Hz (k:=11) rfl h1 h2 hp rfl rfl hm rfl rfl,rfl,rfl,rfl⟩
  ·exact⟨Hz (k:=14) rfl h1 h2 hp rfl rfl hm rfl rfl,rfl,rfl,rfl⟩
 split at h
 ·obtain⟨m,j1,e1,h⟩:=Ar h;simp at h;obtain⟨rfl,_⟩:=h;have hm:=QAw e1;subst k;exact⟨Hz (k:=12) rfl h1 h2 hp rfl rfl rfl rfl (by simp;exact hm),rfl,rfl,rfl⟩
 ·rename_i c1 c2 c3 c4 c5 c6 c7
  simp at h;obtain⟨rfl,_⟩:=h;refine⟨Hz (k:=k) rfl h1 h2 hp ?_ ?_ ?_ ?_ ?_,rfl,rfl,rfl⟩
  ·rw[if_neg (by omega)];rfl
  ·rw[if_neg (by omega)];rfl
  ·rw[if_neg (by omega)];rfl
  ·rw[if_neg (by omega)];rfl
  ·rw[if_neg (by omega)];rfl
theorem M5:FV .nil:=⟨trivial,rfl⟩
theorem Gt {s:Stm} {b e r:Bk}:FV (.cons s b e r)↔s.body=b.count∧s.els=e.count∧(0<b.count→GT s.kind)∧(0<e.count→s.kind=11)∧Dy s=true∧FV b∧FV e∧FV r:=by
 unfold FV;simp only[Bk.fit,Bk.flat,List.all_cons,List.all_append,Bool.and_eq_true];constructor
 ·rintro⟨⟨h1,h2,h3,h4,h5,h6,h7⟩,h8,h9,h10,h11⟩;exact⟨h1,h2,h3,h4,h8,⟨h5,h9⟩,⟨h6,h10⟩,⟨h7,h11⟩⟩
 ·rintro⟨h1,h2,h3,h4,h8,⟨h5,h9⟩,⟨h6,h10⟩,⟨h7,h11⟩⟩;exact⟨⟨h1,h2,h3,h4,h5,h6,h7⟩,h8,h9,h10,h11⟩
def QAx (row:CU):Prop:=∀i d l b j,d≤12→row i d l=some (.ok b j)→FV b∧b.brk l=true∧d+b.deep≤12
theorem V8 {L:List Tok} {i d:Nat} (h:¬(12<d∧isB L i [123]=true)) {u:Unit} {j:Nat} (h2:Bg L i [123]=.ok u j):d≤12:=by
 unfold Bg at h2;split at h2
 ·rename_i hc
  by_cases hd:12<d
  ·exact absurd ⟨hd,hc⟩ h
  ·omega
 ·unfold badR at h2;cases h2
theorem Uk {L:List Tok} {row:CU} (hr:QAx row) {i d l j:Nat} {b:Bk} (h:Bz row L i d l=some (.ok b j)):FV b∧b.brk l=true∧d+b.deep≤12:=by
 unfold Bz at h;split at h
 ·unfold badR at h;simp at h
 ·rename_i hc
  rcases RS.obind_some h with⟨_,j1,h1,h2⟩|⟨e,p,h1,h2⟩
  ·rcases RS.obind_some h2 with⟨b1,j2,h3,h4⟩|⟨e,p,h3,h4⟩
   ·rcases RS.obind_some h4 with⟨_,j3,h5,h6⟩|⟨e,p,h5,h6⟩
    ·simp at h6;obtain⟨rfl,_⟩:=h6;exact hr _ _ _ _ _ (V8 hc (Option.some.inj h1)) h3
    ·cases h6
   ·cases h4
  ·cases h2
theorem QEl {n:Nat} {L:List Tok} {row:CU} (hn:n≤4000) (hL:TF n L) (hr:QAx row) {i d l j:Nat} {o:V7} (hd:d≤12) (h:GO row L i d l=some (.ok o j)):
  o.s.body=o.b.count∧o.s.els=o.e.count∧(0<o.b.count→GT o.s.kind)∧(0<o.e.count→o.s.kind=11)∧Dy o.s=true∧FV o.b∧FV o.e∧
  (¬o.s.kind=13∨0<l)∧o.b.brk (if o.s.kind=12 then l+1 else l)=true∧o.e.brk (if o.s.kind=12 then l+1 else l)=true∧(GT o.s.kind→d+(o.b.deep+1)≤12∧d+(o.e.deep+1)≤12):=by
 unfold GO at h;split at h
 ·unfold badR at h;simp at h
 ·rename_i hb
  have hkr:=Pg L i;have hpl:=Kr (n:=n) (fun t ht=>(hL t ht).1) (i:Int);rcases RS.obind_some h with⟨s,j1,h1,h2⟩|⟨e,p,h1,h2⟩
  ·obtain⟨f1,f2,f3,f4⟩:=Yp hn hL hkr.1 hkr.2 ⟨hpl.1,by omega⟩ (Option.some.inj h1);have hbr:¬s.kind=13∨0<l:=by rw[f2];omega
   split at h2
   ·rename_i hk
    rcases RS.obind_some h2 with⟨_,j2,h3,h4⟩|⟨e,p,h3,h4⟩
    ·simp at h4;obtain⟨rfl,_⟩:=h4;exact⟨f3,f4,fun h=>absurd h (by simp[Bk.count]),fun h=>absurd h (by simp[Bk.count]),f1,M5,M5,hbr,rfl,rfl,fun h=>absurd h (by show¬GT s.kind;rw[f2];exact hk)⟩
    ·cases h4
   ·rename_i hk
    have hk':GT s.kind:=by rw[f2];exact Decidable.not_not.1 hk
    rcases RS.obind_some h2 with⟨b,j2,h3,h4⟩|⟨e,p,h3,h4⟩
    ·obtain⟨g1,g2,g3⟩:=Uk hr h3;rcases RS.obind_some h4 with⟨e,j3,h5,h6⟩|⟨e,p,h5,h6⟩
     ·simp at h6;obtain⟨rfl,_⟩:=h6;have hin:Yn (Ao L i) l=if s.kind=12 then l+1 else l:=by
       unfold Yn;rw[f2];by_cases hc:Ao L i=12
       ·rw[if_pos hc,if_pos (by omega)]
       ·rw[if_neg hc,if_neg (by omega)]
      rw[hin]at g2 h5;have he:FV e∧e.brk (if s.kind=12 then l+1 else l)=true∧d+1+e.deep≤12∧(0<e.count→s.kind=11):=by
       unfold Df at h5;split at h5
       ·rename_i hc
        obtain⟨q1,q2,q3⟩:=Uk hr h5;exact⟨q1,q2,q3,fun _=>by rw[f2,hc.1];rfl⟩
       ·simp at h5;obtain⟨rfl,_⟩:=h5;exact⟨M5,rfl,by simp only[Bk.deep];omega,fun h=>absurd h (by simp[Bk.count])⟩
      obtain⟨q1,q2,q3,q4⟩:=he;exact⟨rfl,rfl,fun _=>hk',q4,f1,g1,q1,hbr,g2,q2,fun _=>⟨by show d+(b.deep+1)≤12;omega,by show d+(e.deep+1)≤12;omega⟩⟩
     ·cases h6
    ·cases h4
  ·cases h2
theorem QEm {n:Nat} {L:List Tok} (hn:n≤4000) (hL:TF n L):∀f,QAx (Ci L f):=by
 intro f
 induction f with
 |zero=>intro i d l b j _ h;simp[Ci]at h
 |succ f ih=>
  intro i d l b j hd h;rw[DI]at h;split at h
  ·simp at h;obtain⟨rfl,_⟩:=h;exact⟨M5,rfl,by simp only[Bk.deep];omega⟩
  ·rcases RS.obind_some h with⟨o,j1,h1,h2⟩|⟨e,p,h1,h2⟩
   ·rcases RS.obind_some h2 with⟨r,j2,h3,h4⟩|⟨e,p,h3,h4⟩
    ·simp at h4;obtain⟨rfl,_⟩:=h4;obtain⟨g1,g2,g3⟩:=ih _ _ _ _ _ hd h3;obtain⟨q1,q2,q3,q4,q5,q6,q7,q8,q9,q10,q11⟩:=QEl hn hL ih hd h1;refine⟨Gt.2 ⟨q1,q2,q3,q4,q5,q6,q7,g1⟩,?_,?_⟩
     ·simp only[Bk.brk,q9,q10,g2,Bool.and_true];simpa using q8
     ·simp only[Bk.deep];split
      ·rename_i hb;have:=q11 hb;omega
      ·omega
    ·cases h4
   ·cases h2
end Go.Proofs.YthfkpalfopdmhaaGreatDoor
namespace Go.Proofs.YthfkpalfopdmhaaGreatDoor
open Go.RowKit
def Qs (x:Stm) (vE vF:Value):Value:=.agg #[.int .i64 x.kind,.string ⟨x.reg.toArray⟩,.string ⟨x.name.toArray⟩,vE,vF,.int .i64 x.n,.int .i64 x.body,.int .i64 x.els,.int .i64 x.pl]
def GW (x:Stm):Prop:=x.reg.length≤100000∧x.name.length≤100000∧x.e.length≤10000∧x.f.length≤10000∧Fa x.e∧Fa x.f
structure Yq (W:World) (g:Nat) (a b c d e f h i j:Value):Prop where
 lt:g<W.heap.size
 c0:W.cell? ⟨g,0,none⟩=some a
 c1:W.cell? ⟨g,1,none⟩=some b
 c2:W.cell? ⟨g,2,none⟩=some c
 c3:W.cell? ⟨g,3,none⟩=some d
 c4:W.cell? ⟨g,4,none⟩=some e
 c5:W.cell? ⟨g,5,none⟩=some f
 c6:W.cell? ⟨g,6,none⟩=some h
 c7:W.cell? ⟨g,7,none⟩=some i
 c8:W.cell? ⟨g,8,none⟩=some j
theorem Ed (w:World) (a b c d e f h i j:Value) (t:TypeId):Yq (w.alloc (.cells #[a,b,c,d,e,f,h,i,j] t)) w.heap.size a b c d e f h i j:=⟨by simp,by simp,by simp,by simp,by simp,by simp,by simp,by simp,by simp,by simp⟩
theorem Yq.on {W W':World} {g:Nat} {a b c d e f h i j:Value} (k:Yq W g a b c d e f h i j) (hb:Below W.heap.size W W'):Yq W' g a b c d e f h i j:=by
 obtain⟨lt,c0,c1,c2,c3,c4,c5,c6,c7,c8⟩:=k;have e:∀q,W'.cell? ⟨g,q,none⟩=W.cell? ⟨g,q,none⟩:=fun q=>hb.cell (p:=⟨g,q,none⟩) lt
 exact⟨Nat.lt_of_lt_of_le lt hb.size,by rw[e,c0],by rw[e,c1],by rw[e,c2],by rw[e,c3],by rw[e,c4],by rw[e,c5],by rw[e,c6],by rw[e,c7],by rw[e,c8]⟩
structure At9 (w:World) (g o:Nat) (t:Stm) (AE:Option Addr) (nE cE:Nat) (AF:Option Addr) (nF cF:Nat):Prop where
 lt:g<w.heap.size
 c0:w.cell? ⟨g,o,none⟩=some (.int .i64 t.kind)
 c1:w.cell? ⟨g,o+1,none⟩=some (.string ⟨t.reg.toArray⟩)
 c2:w.cell? ⟨g,o+2,none⟩=some (.string ⟨t.name.toArray⟩)
 c3:w.cell? ⟨g,o+3,none⟩=some (.slice AE nE cE)
 c4:w.cell? ⟨g,o+4,none⟩=some (.slice AF nF cF)
 c5:w.cell? ⟨g,o+5,none⟩=some (.int .i64 t.n)
 c6:w.cell? ⟨g,o+6,none⟩=some (.int .i64 t.body)
 c7:w.cell? ⟨g,o+7,none⟩=some (.int .i64 t.els)
 c8:w.cell? ⟨g,o+8,none⟩=some (.int .i64 t.pl)
 re:BA w (.slice AE nE cE) t.e
 rf:BA w (.slice AF nF cF) t.f
theorem At9.on {w w':World} {g o:Nat} {t:Stm} {AE:Option Addr} {nE cE:Nat} {AF:Option Addr} {nF cF:Nat} (h:At9 w g o t AE nE cE AF nF cF) (hb:Below w.heap.size w w'):At9 w' g o t AE nE cE AF nF cF:=by
 obtain⟨lt,c0,c1,c2,c3,c4,c5,c6,c7,c8,re,rf⟩:=h;have e:∀q,w'.cell? ⟨g,q,none⟩=w.cell? ⟨g,q,none⟩:=fun q=>hb.cell (p:=⟨g,q,none⟩) lt
 exact⟨Nat.lt_of_lt_of_le lt hb.size,by rw[e,c0],by rw[e,c1],by rw[e,c2],by rw[e,c3],by rw[e,c4],by rw[e,c5],by rw[e,c6],by rw[e,c7],by rw[e,c8],re.on hb,rf.on hb⟩
def BI (w:World) (v:Value) (L:List Stm):Prop:=
 ∃A c,v=.slice A L.length c∧L.length≤c∧c≤maxLen∧(∀i t,L[i]?=some t→∃g o AE nE cE AF nF cF,A=some ⟨g,o,none⟩∧At9 w g (o+i*9) t AE nE cE AF nF cF)
theorem BI.on {w w':World} {v:Value} {L:List Stm} (h:BI w v L) (hb:Below w.heap.size w w'):BI w' v L:=by
 obtain⟨A,c,hv,hc,hm,hr⟩:=h;refine⟨A,c,hv,hc,hm,fun i t hi=>?_⟩;obtain⟨g,o,AE,nE,cE,AF,nF,cF,hA,h9⟩:=hr i t hi;exact⟨g,o,AE,nE,cE,AF,nF,cF,hA,h9.on hb⟩
theorem BI.part {w:World} {g o n c k j:Nat} {L:List Stm} (h:BI w (.slice (some ⟨g,o,none⟩) n c) L) (hk:k≤j) (ht:j≤n):BI w (.slice (some ⟨g,o+k*9,none⟩) (j-k) (c-k)) ((L.take j).drop k):=by
 obtain⟨A,c',hv,hc,hm,hr⟩:=h;simp only[Value.slice.injEq]at hv;obtain⟨rfl,rfl,rfl⟩:=hv;refine⟨_,_,by rw[List.length_drop,List.length_take,Nat.min_eq_left ht],by rw[List.length_drop,List.length_take,Nat.min_eq_left ht];omega,by omega,fun i t hi=>?_⟩;rw[List.getElem?_drop,List.getElem?_take]at hi;split at hi
 ·obtain⟨g',o',AE,nE,cE,AF,nF,cF,hA,h9⟩:=hr (k+i) t hi;simp only[Option.some.injEq,Addr.mk.injEq]at hA;obtain⟨rfl,rfl,_⟩:=hA;rw[show o+(k+i)*9=o+k*9+i*9 from by omega]at h9;exact⟨g,o+k*9,AE,nE,cE,AF,nF,cF,rfl,h9⟩
 ·cases hi
theorem V9 (w:World):BI w (.slice none 0 0) []:=⟨none,0,rfl,Nat.le_refl _,Nat.zero_le _,fun i t h=>by simp at h⟩
def QEn (x:Stm) (l n:Nat):Prop:=JH x n∧¬(x.kind=13∧l=0)
instance (x:Stm) (l n:Nat):Decidable (QEn x l n):=inferInstanceAs (Decidable (_∧¬_))
theorem Pl (x:Stm) (r:List Stm):Dx (x::r)=if JH x r.length then
   match Dx (Dv x r),Dx (Dl x r),Dx (Dw x r)with
   |some b,some e,some t=>some (.cons x b e t)
   |_,_,_=>none
  else none:=by
 show H8 (r.length+1) (x::r)=_;unfold H8;split
 ·rename_i h
  obtain⟨h1,h2,h3⟩:=Nk h;have hh:=h;obtain⟨g1,g2,_⟩:=hh;rw[PS (by omega),PS (by omega),PS (by omega)];cases Dx (Dv x r)<;>cases Dx (Dl x r)<;>cases Dx (Dw x r)<;>rfl
 ·rfl
theorem WE {k:Nat} (h:k<15):QEi k=Dp k:=by
 have:∀k:Fin 15,QEi (k.1:Int)=Dp k.1:=by decide
 exact this ⟨k,h⟩
theorem BI.cutAt {w:World} {g o n c k j m d:Nat} {L M:List Stm} {A:Option Addr} (h:BI w (.slice (some ⟨g,o,none⟩) n c) L) (hk:k≤j) (ht:j≤n) (hm:m=j-k) (hd:d=c-k) (hA:k<c→A=some ⟨g,o+k*9,none⟩) (hM:M=(L.take j).drop k):BI w (.slice A m d) M:=by
 subst hm hd hM;by_cases hc:k<c
 ·rw[hA hc];exact h.part hk ht
 ·obtain⟨A',c',hv,hc',hm,hr⟩:=h;simp only[Value.slice.injEq]at hv;obtain⟨rfl,rfl,rfl⟩:=hv;have hz:((L.take j).drop k).length=0:=by rw[List.length_drop,List.length_take];omega
  rw[List.length_eq_zero_iff.1 hz];refine⟨A,c-k,by rw[show j-k=0 from by omega];rfl,Nat.zero_le _,by omega,fun i t h=>by simp at h⟩
def QEo (L M N:List Stm) (w:World) (e:Ending) (w':World):Prop:=
 ∃v1 v2 v3,e=.returned (.tuple #[v1,v2,v3])∧BI w' v1 L∧BI w' v2 M∧BI w' v3 N∧Below w.heap.size w w'
set_option maxRecDepth 100000 in
set_option maxHeartbeats 4000000 in
theorem Ku (v:Value) (x:Stm) (r:List Stm) (w:World) (h:BI w v (x::r)) (hh:JH x r.length) (hl:r.length≤10000):Calls Tryz.prog 205 #[v] w (QEo (Dv x r) (Dl x r) (Dw x r) w):=by
 have HL:=AA h;obtain⟨A,c,rfl,hc,hm,hr⟩:=h;obtain⟨g,o,AE,nE,cE,AF,nF,cF,rfl,h9⟩:=hr 0 x rfl;obtain⟨lt9,x0,x1,x2,x3,x4,x5,x6,x7,x8,_,_⟩:=h9;clear hr x0 x1 x2 x3 x4 x5 x8;obtain⟨h1,h2,h3,_⟩:=hh;obtain⟨b,hb⟩:∃b:Nat,x.body=b:=⟨x.body.toNat,by omega⟩
 obtain⟨e,he⟩:∃e:Nat,x.els=e:=⟨x.els.toNat,by omega⟩
 rw[hb]at x6 h3;rw[he]at x7 h3;have HB:=AA hb;have HE:=AA he;clear hb he h1 h2;have hlen:(x::r).length=r.length+1:=rfl;rw[hlen]at hc⊢;have hbe:b+e≤r.length:=by omega
 unfold maxLen at hm;simp only[Nat.zero_mul,Nat.add_zero]at x6 x7;have i1:IntKind.i64.wrap (1+(b:Int))=1+b:=IntWalk.i64_in _ (by omega);have i2:IntKind.i64.wrap (1+(b:Int)+e)=1+b+e:=IntWalk.i64_in _ (by omega);go_enter Tryz.func205,Tryz.ntmps205;go_wp2_with fail
 go_quiet (fail)
 generalize hA1:(if c=1 then some (⟨g,o,none⟩:Addr)else some ⟨g,o+9,none⟩)=A1;generalize hA2:(if c=1+b then some (⟨g,o,none⟩:Addr)else some ⟨g,o+(1+b)*9,none⟩)=A2;generalize hA3:(if c=1+b+e then some (⟨g,o,none⟩:Addr)else some ⟨g,o+(1+b+e)*9,none⟩)=A3;have eb:x.body.toNat=b:=by have:=HB.out;omega
 have ee:x.els.toNat=e:=by have:=HE.out;omega
 have g1:BI w (.slice A1 (1+b-1) (c-1)) (Dv x r):=HL.out.cutAt (k:=1) (j:=1+b) (by omega) (by rw[hlen];omega) rfl rfl (fun hk=>by rw[←hA1,if_neg (by omega),Nat.one_mul]) (by unfold Dv;rw[eb,Nat.add_comm 1 b];rfl);have g2:BI w (.slice A2 (1+b+e-(1+b)) (c-(1+b))) (Dl x r):=HL.out.cutAt (k:=1+b) (j:=1+b+e) (by omega) (by rw[hlen];omega) rfl rfl (fun hk=>by rw[←hA2,if_neg (by omega)]) (by
  unfold Dl;rw[eb,ee,show 1+b+e=(b+e)+1 from by omega,Nat.add_comm 1 b];show _=(r.take (b+e)).drop b;rw[List.drop_take];congr 1;omega)
 have g3:BI w (.slice A3 (r.length+1-(1+b+e)) (c-(1+b+e))) (Dw x r):=HL.out.cutAt (k:=1+b+e) (j:=r.length+1) (by omega) (by rw[hlen];omega) rfl rfl (fun hk=>by rw[←hA3,if_neg (by omega)]) (by
  unfold Dw;rw[eb,ee,show 1+b+e=(b+e)+1 from by omega];show _=((r.take r.length).drop (b+e))
  rw[List.take_length])
 have G1:=AA g1;have G2:=AA g2;have G3:=AA g3;clear g1 g2 g3 hA1 hA2 hA3;go_wp2_with fail
 refine bodyPost_ret (v:=.tuple #[.slice A1 (1+b-1) (c-1),.slice A2 (1+b+e-(1+b)) (c-(1+b)),.slice A3 (r.length+1-(1+b+e)) (c-(1+b+e))]) (by simp[results,Tryz.results205,go_sem]) rfl ?_;exact⟨_,_,_,rfl,G1.out.on (AO _ _),G2.out.on (AO _ _),G3.out.on (AO _ _),AO _ _⟩
end Go.Proofs.YthfkpalfopdmhaaGreatDoor
