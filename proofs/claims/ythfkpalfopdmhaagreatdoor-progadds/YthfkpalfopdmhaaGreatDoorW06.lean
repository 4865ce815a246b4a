/- Texts of the walk, packed. -/
import Derived.Test.YthfkpalfopdmhaaGreatDoorW01
import Derived.Test.YthfkpalfopdmhaaGreatDoorW02
import Derived.Test.YthfkpalfopdmhaaGreatDoorW00
namespace Go.Proofs.YthfkpalfopdmhaaGreatDoor
structure Nod where
 op:Int
 n:Int
 name:List UInt8
 pl:Int
deriving DecidableEq
def BD (op:Int):Option Nat:=if op=1\/op=2 then some 0 else if op=3\/op=4 then some 1 else if 5<=op/\op<=15 then some 2 else none
def JE (op:Int):Int:=match BD op with
 |some t=>t
 |none=> -1
theorem U6 {op:Int} {t:Nat} (h:BD op=some t):t<=2:=by
 unfold BD at h;split at h
 ·simp at h;omega
 ·split at h
  ·simp at h;omega
  ·split at h
   ·simp at h;omega
   ·cases h
theorem G5 {op:Int} {t:Nat} (h:BD op=some t):JE op=t:=by unfold JE;rw[h]
theorem U7 {op:Int} (h:BD op=none):JE op= -1:=by unfold JE;rw[h]
theorem GN {op:Int} {t:Nat} (h:BD op=some t):1<=op/\op<=15:=by
 unfold BD at h;split at h
 ·omega
 ·split at h
  ·omega
  ·split at h
   ·omega
   ·cases h
inductive Ex where
 |leaf (a:Nod)
 |un (a:Nod) (x:Ex)
 |bin (a:Nod) (x y:Ex)
deriving DecidableEq
def Ex.flat:Ex->List Nod
 |.leaf a=>[a]
 |.un a x=>a::x.flat
 |.bin a x y=>a::(x.flat++y.flat)
def Ex.ok:Ex->Prop
 |.leaf a=>BD a.op=some 0
 |.un a x=>BD a.op=some 1/\x.ok
 |.bin a x y=>BD a.op=some 2/\x.ok/\y.ok
def Ex.deep:Ex->Nat
 |.leaf _=>1
 |.un _ x=>x.deep+1
 |.bin _ x y=>max x.deep y.deep+1
def Ex.size:Ex->Nat
 |.leaf _=>1
 |.un _ x=>x.size+1
 |.bin _ x y=>x.size+y.size+1
def Ex.top:Ex->Nod
 |.leaf a=>a
 |.un a _=>a
 |.bin a _ _=>a
theorem Bt (x:Ex):x.flat.length=x.size:=by
 induction x with
 |leaf a=>rfl
 |un a x ih=>simp[Ex.flat,Ex.size,ih]
 |bin a x y ih1 ih2=>simp[Ex.flat,Ex.size,ih1,ih2]
theorem GO (x:Ex):1<=x.size:=by cases x<;>simp[Ex.size]
theorem M4 (x:Ex):1<=x.deep:=by cases x<;>simp[Ex.deep]
theorem IQ (x:Ex):x.deep<=x.size:=by
 induction x with
 |leaf a=>exact Nat.le_refl _
 |un a x ih=>simp[Ex.deep,Ex.size];omega
 |bin a x y ih1 ih2=>simp[Ex.deep,Ex.size];omega
theorem Y3 (x:Ex):∃r,x.flat=x.top::r:=by cases x<;>exact⟨_,rfl⟩
theorem M5 (x:Ex):x.flat≠[]:=by obtain⟨r,h⟩:=Y3 x;rw[h];simp
def FQ:Nat->List Nod->Option Nat
 |_,[]=>none
 |m,a::r=>match BD a.op with
  |none=>none
  |some t=>if m+t=0 then some 1 else(FQ (m+t-1) r).map (·+1)
def M7 (L:List Nod) (i:Int):Int:=if i<0 then -1 else match FQ 0 (L.drop i.toNat)with
 |some k=>i+k
 |none=> -1
theorem JQ {m:Nat} {a:Nod} (r:List Nod) (h:BD a.op=none):FQ m (a::r)=none:=by unfold FQ;rw[h]
theorem JR {a:Nod} (r:List Nod) (h:BD a.op=some 0):FQ 0 (a::r)=some 1:=by unfold FQ;rw[h];rfl
theorem Gh {m t:Nat} {a:Nod} (r:List Nod) (h:BD a.op=some t) (h2:m+t≠0):FQ m (a::r)=(FQ (m+t-1) r).map (·+1):=by
 rw[FQ,h];simp only;rw[if_neg h2]
theorem Y4 (m:Nat):∀(l:List Nod) (n:Nat),FQ (m+n+1) l=(FQ n l).bind fun k=>(FQ m (l.drop k)).map (·+k):=by
 intro l
 induction l with
 |nil=>intro n;rfl
 |cons a r ih=>
  intro n;cases ht:BD a.op with
  |none=>rw[JQ r ht,JQ r ht];rfl
  |some t=>
   rw[Gh r ht (by omega)];by_cases h0:n+t=0
   ·obtain⟨rfl,rfl⟩:n=0/\t=0:=by omega
    rw[JR r ht];show(FQ m r).map _=(FQ m (List.drop 1 (a::r))).map _;rfl
   ·rw[Gh r ht h0,show m+n+1+t-1=m+(n+t-1)+1 from by omega,ih];cases h1:FQ (n+t-1) r with
    |none=>rfl
    |some k=>
     show Option.map _ (Option.map _ (FQ m (r.drop k)))=Option.map _ (FQ m ((a::r).drop (k+1)));rw[List.drop_succ_cons,Option.map_map];rfl
theorem QD1:∀(l:List Nod) (m k:Nat),FQ m l=some k->1<=k/\k<=l.length:=by
 intro l
 induction l with
 |nil=>intro m k h;cases h
 |cons a r ih=>
  intro m k h;cases ht:BD a.op with
  |none=>rw[JQ r ht]at h;cases h
  |some t=>
   by_cases h0:m+t=0
   ·obtain⟨rfl,rfl⟩:m=0/\t=0:=by omega
    rw[JR r ht]at h;simp at h;simp;omega
   ·rw[Gh r ht h0]at h;cases h1:FQ (m+t-1) r with
    |none=>rw[h1]at h;cases h
    |some j=>
     rw[h1]at h;simp at h;have:=ih _ _ h1;simp;omega
theorem Rm (x:Ex):∀(r:List Nod),x.ok->FQ 0 (x.flat++r)=some x.size:=by
 induction x with
 |leaf a=>intro r h;exact JR r h
 |un a x ih=>
  intro r h;show FQ 0 (a::(x.flat++r))=_;rw[Gh _ h.1 (by omega)];show Option.map _ (FQ 0 _)=_;rw[ih r h.2];rfl
 |bin a x y ih1 ih2=>
  intro r h;show FQ 0 (a::(x.flat++y.flat++r))=_;rw[Gh _ h.1 (by omega)];show Option.map _ (FQ (0+0+1) _)=_;rw[Y4 0 _ 0,List.append_assoc,ih1 _ h.2.1];show Option.map _ (Option.map _ (FQ 0 (List.drop x.size (x.flat++(y.flat++r)))))=_;rw[<-Bt x,List.drop_left,ih2 _ h.2.2,Bt];show some (y.size+x.size+1)=some (x.size+y.size+1);rw[Nat.add_comm y.size]
theorem WP:∀(l:List Nod) (m k:Nat),FQ m l=some k->∃xs:List Ex,xs.length=m+1/\(∀x∈xs,x.ok)/\xs.flatMap Ex.flat=l.take k:=by
 intro l
 induction l with
 |nil=>intro m k h;cases h
 |cons a r ih=>
  intro m k h;cases ht:BD a.op with
  |none=>rw[JQ r ht]at h;cases h
  |some t=>
   by_cases h0:m+t=0
   ·obtain⟨rfl,rfl⟩:m=0/\t=0:=by omega
    rw[JR r ht]at h;simp at h;subst h;exact⟨[.leaf a],rfl,fun x hx=>by simp at hx;subst hx;exact ht,rfl⟩
   ·rw[Gh r ht h0]at h;cases h1:FQ (m+t-1) r with
    |none=>rw[h1]at h;cases h
    |some j=>
     rw[h1]at h;simp at h;subst h;obtain⟨xs,hl,ho,hf⟩:=ih _ _ h1;have ht2:=U6 ht
     match t,ht,ht2,hl with
     |0,ht,_,hl=>
      refine⟨.leaf a::xs,by simp;omega,fun x hx=>?_,?_⟩
      ·rcases List.mem_cons.1 hx with rfl|hx
       ·exact ht
       ·exact ho x hx
      ·rw[List.flatMap_cons,hf,List.take_succ_cons];rfl
     |1,ht,_,hl=>
      match xs,hl,ho,hf with
      |x::xs,hl,ho,hf=>
       refine⟨.un a x::xs,by simp only[List.length_cons]at hl⊢;omega,fun y hy=>?_,?_⟩
       ·rcases List.mem_cons.1 hy with rfl|hy
        ·exact⟨ht,ho x (by simp)⟩
        ·exact ho y (by simp[hy])
       ·rw[List.flatMap_cons]at hf⊢;rw[List.take_succ_cons,<-hf];rfl
     |2,ht,_,hl=>
      match xs,hl,ho,hf with
      |[x],hl,ho,hf=>simp at hl
      |x::y::xs,hl,ho,hf=>
       refine⟨.bin a x y::xs,by simp only[List.length_cons]at hl⊢;omega,fun z hz=>?_,?_⟩
       ·rcases List.mem_cons.1 hz with rfl|hz
        ·exact⟨ht,ho x (by simp),ho y (by simp)⟩
        ·exact ho z (by simp[hz])
       ·rw[List.flatMap_cons,List.flatMap_cons]at hf;rw[List.flatMap_cons,List.take_succ_cons,<-hf];simp[Ex.flat]
theorem Y5 {l:List Nod} {k:Nat} (h:FQ 0 l=some k):∃x:Ex,x.ok/\x.flat=l.take k/\x.size=k:=by
 obtain⟨xs,hl,ho,hf⟩:=WP l 0 k h
 match xs,hl,ho,hf with
 |[x],_,ho,hf=>
  have hk:=QD1 l 0 k h;have e:x.flat=l.take k:=by simpa using hf
  refine⟨x,ho x (by simp),e,?_⟩;rw[<-Bt,e,List.length_take];omega
def JS:Nat->List Nod->Option (Ex×List Nod)
 |0,_=>none
 |_+1,[]=>none
 |f+1,a::r=>match BD a.op with
  |some 0=>some (.leaf a,r)
  |some 1=>match JS f r with
   |some (x,r1)=>some (.un a x,r1)
   |none=>none
  |some 2=>match JS f r with
   |some (x,r1)=>match JS f r1 with
    |some (y,r2)=>some (.bin a x y,r2)
    |none=>none
   |none=>none
  |_=>none
theorem WQ (x:Ex):∀(f:Nat) (r:List Nod),x.ok->x.size<=f->JS f (x.flat++r)=some (x,r):=by
 induction x with
 |leaf a=>
  intro f r h hf;cases f with
  |zero=>simp[Ex.size]at hf
  |succ f=>show JS (f+1) (a::r)=_;rw[JS,show BD a.op=some 0 from h];rfl
 |un a x ih=>
  intro f r h hf;cases f with
  |zero=>simp[Ex.size]at hf
  |succ f=>
   show JS (f+1) (a::(x.flat++r))=_;rw[JS,h.1];simp only;rw[ih f r h.2 (by simp[Ex.size]at hf;omega)]
 |bin a x y ih1 ih2=>
  intro f r h hf;cases f with
  |zero=>simp[Ex.size]at hf
  |succ f=>
   show JS (f+1) (a::(x.flat++y.flat++r))=_;rw[JS,h.1];simp only;rw[List.append_assoc,ih1 f _ h.2.1 (by simp[Ex.size]at hf;omega)];simp only;rw[ih2 f r h.2.2 (by simp[Ex.size]at hf;omega)]
theorem WR:∀(f:Nat) (l:List Nod) (x:Ex) (r:List Nod),JS f l=some (x,r)->x.ok/\l=x.flat++r:=by
 intro f
 induction f with
 |zero=>intro l x r h;cases h
 |succ f ih=>
  intro l x r h;cases l with
  |nil=>cases h
  |cons a l=>
   unfold JS at h;split at h
   ·rename_i ht
    simp at h;obtain⟨rfl,rfl⟩:=h;exact⟨ht,rfl⟩
   ·rename_i ht
    split at h
    ·rename_i x1 r1 h1
     simp at h;obtain⟨rfl,rfl⟩:=h;obtain⟨i1,rfl⟩:=ih _ _ _ h1;exact⟨⟨ht,i1⟩,rfl⟩
    ·cases h
   ·rename_i ht
    split at h
    ·rename_i x1 r1 h1
     split at h
     ·rename_i y1 r2 h2
      simp at h;obtain⟨rfl,rfl⟩:=h;obtain⟨i1,rfl⟩:=ih _ _ _ h1;obtain⟨i2,rfl⟩:=ih _ _ _ h2;exact⟨⟨ht,i1,i2⟩,by simp[Ex.flat]⟩
     ·cases h
    ·cases h
   ·cases h
def Ft (L:List Nod):Option Ex:=match JS L.length L with
 |some (x,[])=>some x
 |_=>none
theorem Jy {x:Ex} (h:x.ok):Ft x.flat=some x:=by
 unfold Ft;have:=WQ x x.flat.length [] h (by rw[Bt];exact Nat.le_refl _);rw[List.append_nil]at this;rw[this]
theorem L8 {L:List Nod} {x:Ex} (h:Ft L=some x):x.ok/\L=x.flat:=by
 unfold Ft at h;split at h
 ·rename_i y hy
  simp at h;subst h;have:=WR _ _ _ _ hy;simpa using this
 ·cases h
theorem Y6 {L:List Nod} {x:Ex} (h:Ft L=some x):M7 L 0=L.length:=by
 obtain⟨ho,rfl⟩:=L8 h;have:=Rm x [] ho;rw[List.append_nil]at this;unfold M7;rw[if_neg (by omega)];show(match FQ 0 (x.flat.drop 0)with|some k=>(0:Int)+k|none=> -1)=_;rw[List.drop_zero,this,Bt];simp
theorem QD2 {L:List Nod} (h:Ft L=none):M7 L 0≠L.length:=by
 intro e;unfold M7 at e;rw[if_neg (by omega)]at e;simp only[Int.toNat_zero,List.drop_zero]at e;cases hc:FQ 0 L with
 |none=>rw[hc]at e;simp only at e;omega
 |some k=>
  rw[hc]at e;simp only at e;obtain⟨x,ho,hf,_⟩:=Y5 hc;rw[List.take_of_length_le (by omega)]at hf;rw[<-hf,Jy ho]at h;cases h
theorem QBO {L:List Nod} {i:Int} (h:i<0):M7 L i= -1:=by unfold M7;rw[if_pos h]
theorem U8 (L:List Nod) (i:Nat):M7 L i=match FQ 0 (L.drop i)with|some k=>((i+k:Nat):Int)|none=> -1:=by
 unfold M7;rw[if_neg (by omega),Int.toNat_natCast];cases FQ 0 (L.drop i)<;>simp
theorem drop_cons {L:List Nod} {i:Nat} {a:Nod} (h:L[i]?=some a):L.drop i=a::L.drop (i+1):=by
 obtain⟨hi,e⟩:=List.getElem?_eq_some_iff.1 h;rw[List.drop_eq_getElem_cons hi,e]
end Go.Proofs.YthfkpalfopdmhaaGreatDoor
namespace Go.Proofs.YthfkpalfopdmhaaGreatDoor
def Ib:List (List UInt8):=[[],[],[],[45],[33],[43],[45],[42],[47],[37],[61,61],[33,61],[60],[60,61],[38,38],[124,124]]
def Po:List Int:=[0,0,0,6,6,4,4,5,5,5,3,3,3,3,2,1]
def Ar (op:Nat):List UInt8:=Ib.getD op []
def Em (op:Nat):Int:=Po.getD op 0
def Aw (L:List Tok) (b:Nat) (i:Nat):Nat:=((List.range 16).find? (fun op=>Em op==(b:Int)&&isB L i (Ar op))).getD 0
def plAt (L:List Tok) (i:Nat):Int:=match L[i]? with
 |some t=>t.pl
 |none=>0
inductive Res where
 |ok (x:Ex) (tq:Nat)
 |bad (e:Int) (j:Nat)
deriving DecidableEq
def Ic (L:List Tok) (j:Nat):Res:=.bad (if L.length<=j then 6 else 5) j
def Fe (L:List Tok) (i:Nat):Res:=match L[i]? with
 |none=>.bad 6 i
 |some t=>if t.kind=2 then .ok (.leaf ⟨1,t.n,[],t.pl⟩) (i+1)else if t.kind=1/\nameB t.text=true then .ok (.leaf ⟨2,0,t.text,t.pl⟩) (i+1)else .bad 5 i
def signN (L:List Tok) (b i:Nat):Nod:=⟨Aw L b i,0,[],plAt L i⟩
mutual
def Ah (L:List Tok):Nat->Nat->Nat->Nat->Option Res
 |0,_,_,_=>none
 |f+1,b,i,d=>if b=6 then BU L f i d else match Ah L f (b+1) i d with
  |some (.ok x tq)=>Dw L f b x tq d
  |some (.bad e j)=>some (.bad e j)
  |none=>none
def Dw (L:List Tok):Nat->Nat->Ex->Nat->Nat->Option Res
 |0,_,_,_,_=>none
 |f+1,b,x,i,d=>if Aw L b i=0 then some (.ok x i)else match Ah L f (b+1) (i+1) d with
  |some (.ok y tq)=>if b=3 then some (.ok (.bin (signN L b i) x y) tq)else Dw L f b (.bin (signN L b i) x y) tq d
  |some (.bad e j)=>some (.bad e j)
  |none=>none
def BU (L:List Tok):Nat->Nat->Nat->Option Res
 |0,_,_=>none
 |f+1,i,d=>if isB L i [40]=true then(if d=12 then some (.bad 7 i)else match Ah L f 1 (i+1) (d+1)with
   |some (.ok x tq)=>if isB L tq [41]=true then some (.ok x (tq+1))else some (Ic L tq)
   |some (.bad e j)=>some (.bad e j)
   |none=>none)
  else if Aw L 6 i=0 then some (Fe L i)else if d=12 then some (.bad 7 i)else match BU L f (i+1) (d+1)with
   |some (.ok x tq)=>some (.ok (.un (signN L 6 i) x) tq)
   |some (.bad e j)=>some (.bad e j)
   |none=>none
end
theorem G6 {L:List Tok} {b i:Nat} (h:Aw L b i≠0):Aw L b i<16/\Em (Aw L b i)=b/\isB L i (Ar (Aw L b i))=true:=by
 unfold Aw at *;cases hf:(List.range 16).find? (fun op=>Em op==(b:Int)&&isB L i (Ar op))with
 |none=>rw[hf]at h;exact absurd rfl h
 |some op=>
  rw[hf]at h;have h1:=List.find?_some hf;have h2:=List.mem_of_find?_eq_some hf;simp at h1 h2;exact⟨h2,h1.1,h1.2⟩
theorem Bl {L:List Tok} {i:Nat} {s:List UInt8} (h:isB L i s=true):i<L.length:=by
 unfold isB at h;by_cases hi:i<L.length
 ·exact hi
 ·rw[Int.toNat_natCast,List.getElem?_eq_none (by omega)]at h;simp at h
theorem GB {L:List Tok} {b i:Nat} (h:Aw L b i≠0):i<L.length:=Bl (G6 h).2.2
theorem Px:∀op:Fin 16,(Em op=6->BD (op:Nat)=some 1)/\(∀b:Fin 6,1<=b.1->Em op=(b.1:Int)->BD (op:Nat)=some 2):=by decide
theorem QBP {L:List Tok} {i:Nat} (h:Aw L 6 i≠0):BD (Aw L 6 i:Nat)=some 1:=by
 obtain⟨h1,h2,_⟩:=G6 h;exact(Px ⟨_,h1⟩).1 h2
theorem QBQ {L:List Tok} {b i:Nat} (hb:1<=b) (hb2:b<=5) (h:Aw L b i≠0):BD (Aw L b i:Nat)=some 2:=by
 obtain⟨h1,h2,_⟩:=G6 h;exact(Px ⟨_,h1⟩).2 ⟨b,by omega⟩ hb h2
def YA (L:List Tok) (a:Nod):Prop:=∃t∈L,a.pl=t.pl/\((t.kind=2/\a.op=1/\a.n=t.n/\a.name=[])\/(t.kind=1/\nameB t.text=true/\a.op=2/\a.n=0/\a.name=t.text)\/(3<=a.op/\a.op<=15/\a.n=0/\a.name=[]))
def Py (L:List Tok) (i:Nat) (r:Res):Prop:=match r with
 |.ok x tq=>i<tq/\tq<=L.length/\x.ok/\x.size<=tq-i/\∀a∈x.flat,YA L a
 |.bad e j=>(e=5\/e=6\/e=7)/\i<=j/\(j<=L.length\/j=i)
theorem U9 {L:List Tok} {b i:Nat} (h:Aw L b i≠0) (ht:BD (Aw L b i:Nat)≠some 0):YA L (signN L b i):=by
 have hlt:=GB h;obtain⟨h1,_,_⟩:=G6 h;have e:L[i]?=some L[i]:=List.getElem?_eq_getElem hlt;refine⟨L[i],List.getElem_mem hlt,?_,.inr (.inr ⟨?_,?_,rfl,rfl⟩)⟩
 ·show plAt L i=_;unfold plAt;rw[e]
 ·show(3:Int)<=(Aw L b i:Nat);unfold BD at ht;split at ht
  ·exact absurd rfl ht
  ·omega
 ·show((Aw L b i:Nat):Int)<=15;omega
theorem Y7 (L:List Tok) (i:Nat):Py L i (Fe L i):=by
 unfold Fe;cases h:L[i]? with
 |none=>exact⟨.inr (.inl rfl),Nat.le_refl _,.inr rfl⟩
 |some t=>
  have hi:=(List.getElem?_eq_some_iff.1 h).1;have hm:=List.mem_of_getElem? h;simp only;split
  ·rename_i hk
   refine⟨by omega,by omega,rfl,by simp[Ex.size],fun a ha=>?_⟩;simp[Ex.flat]at ha;subst ha;exact⟨t,hm,rfl,.inl ⟨hk,rfl,rfl,rfl⟩⟩
  ·split
   ·rename_i hk
    refine⟨by omega,by omega,rfl,by simp[Ex.size],fun a ha=>?_⟩;simp[Ex.flat]at ha;subst ha;exact⟨t,hm,rfl,.inr (.inl ⟨hk.1,hk.2,rfl,rfl,rfl⟩)⟩
   ·exact⟨.inl rfl,Nat.le_refl _,.inr rfl⟩
theorem WS (L:List Tok) (i j:Nat) (h:i<=j) (h2:j<=L.length):Py L i (Ic L j):=by
 unfold Ic;show(_\/_\/_)/\_;refine⟨?_,h,.inl h2⟩;split
 ·exact .inr (.inl rfl)
 ·exact .inl rfl
def Rn (L:List Tok) (i:Nat) (x:Ex) (j:Nat):Prop:=i<j/\j<=L.length/\x.ok/\x.size<=j-i/\∀a∈x.flat,YA L a
theorem VA {L:List Tok} {b i j k:Nat} {x y:Ex} (hb:1<=b) (hb2:b<=5) (h:Aw L b j≠0) (hx:Rn L i x j) (hy:Py L (j+1) (.ok y k)):Rn L i (.bin (signN L b j) x y) k:=by
 obtain⟨h1,h2,h3,h4,h5⟩:=hx;obtain⟨g1,g2,g3,g4,g5⟩:=hy;have ht:=QBQ hb hb2 h;refine⟨by omega,g2,⟨ht,h3,g3⟩,by simp[Ex.size];omega,fun a ha=>?_⟩;simp only[Ex.flat,List.mem_cons,List.mem_append]at ha;rcases ha with rfl|ha|ha
 ·exact U9 h (by rw[ht];simp)
 ·exact h5 a ha
 ·exact g5 a ha
theorem Ff (L:List Tok):∀f:Nat,(∀b i d r,1<=b->b<=6->Ah L f b i d=some r->Py L i r)/\(∀b x i j d r,1<=b->b<=5->Rn L i x j->Dw L f b x j d=some r->Py L i r)/\(∀i d r,BU L f i d=some r->Py L i r):=by
 intro f
 induction f with
 |zero=>exact⟨fun b i d r _ _ h=>by simp[Ah]at h,fun b x i j d r _ _ _ h=>by simp[Dw]at h,fun i d r h=>by simp[BU]at h⟩
 |succ f ih=>
  obtain⟨ic,il,is⟩:=ih;refine⟨fun b i d r hb hb2 h=>?_,fun b x i j d r hb hb2 hx h=>?_,fun i d r h=>?_⟩
  ·rw[Ah]at h;split at h
   ·exact is _ _ _ h
   ·split at h
    ·rename_i hc
     have:=ic _ _ _ _ (by omega) (by omega) hc;exact il _ _ _ _ _ _ hb (by omega) this h
    ·rename_i hc
     simp at h;subst h;exact ic _ _ _ _ (by omega) (by omega) hc
    ·cases h
  ·rw[Dw]at h;split at h
   ·simp at h;subst h;exact hx
   ·rename_i hs
    split at h
    ·rename_i hc
     have hy:=ic _ _ _ _ (by omega) (by omega) hc;have hxy:=VA hb hb2 hs hx hy;split at h
     ·simp at h;subst h;exact hxy
     ·exact il _ _ _ _ _ _ hb hb2 hxy h
    ·rename_i hc
     simp at h;subst h;have hlt:=GB hs;obtain⟨h1,h2,h3⟩:=ic _ _ _ _ (by omega) (by omega) hc;have h4:=hx.1;exact⟨h1,by omega,by omega⟩
    ·cases h
  ·rw[BU]at h;split at h
   ·rename_i ho
    have hlt:=Bl ho;split at h
    ·simp at h;subst h;exact⟨.inr (.inr rfl),Nat.le_refl _,.inr rfl⟩
    ·split at h
     ·rename_i hc
      obtain⟨h1,h2,h3,h4,h5⟩:=ic _ _ _ _ (by omega) (by omega) hc;split at h
      ·rename_i hcl
       simp at h;subst h;have:=Bl hcl;exact⟨by omega,by omega,h3,by omega,h5⟩
      ·simp at h;subst h;exact WS _ _ _ (by omega) h2
     ·rename_i hc
      simp at h;subst h;obtain⟨h1,h2,h3⟩:=ic _ _ _ _ (by omega) (by omega) hc;exact⟨h1,by omega,by omega⟩
     ·cases h
   ·split at h
    ·simp at h;subst h;exact Y7 _ _
    ·rename_i hs
     split at h
     ·simp at h;subst h;exact⟨.inr (.inr rfl),Nat.le_refl _,.inr rfl⟩
     ·split at h
      ·rename_i hc
       simp at h;subst h;obtain⟨h1,h2,h3,h4,h5⟩:=is _ _ _ hc;have ht:=QBP hs;refine⟨by omega,h2,⟨ht,h3⟩,by simp[Ex.size];omega,fun a ha=>?_⟩;simp only[Ex.flat,List.mem_cons]at ha;rcases ha with rfl|ha
       ·exact U9 hs (by rw[ht];simp)
       ·exact h5 a ha
      ·rename_i hc
       simp at h;subst h;have hlt:=GB hs;obtain⟨h1,h2,h3⟩:=is _ _ _ hc;exact⟨h1,by omega,by omega⟩
      ·cases h
theorem Y8 (L:List Tok):∀f:Nat,(∀b i d,1<=b->b<=6->20*(L.length-i)+2*(7-b)<=f->∃r,Ah L f b i d=some r)/\(∀b x j d,1<=b->b<=5->20*(L.length-j)+1<=f->∃r,Dw L f b x j d=some r)/\(∀i d,20*(L.length-i)+1<=f->∃r,BU L f i d=some r):=by
 intro f
 induction f with
 |zero=>exact⟨fun b i d _ _ h=>by omega,fun b x j d _ _ h=>by omega,fun i d h=>by omega⟩
 |succ f ih=>
  obtain⟨ic,il,is⟩:=ih;refine⟨fun b i d hb hb2 h=>?_,fun b x j d hb hb2 h=>?_,fun i d h=>?_⟩
  ·rw[Ah];split
   ·exact is _ _ (by omega)
   ·obtain⟨r,hr⟩:=ic (b+1) i d (by omega) (by omega) (by omega);rw[hr];cases r with
    |ok x tq=>
     obtain⟨h1,h2,_⟩:=(Ff L f).1 _ _ _ _ (by omega) (by omega) hr;exact il _ _ _ _ hb (by omega) (by omega)
    |bad e j=>exact⟨_,rfl⟩
  ·rw[Dw];split
   ·exact⟨_,rfl⟩
   ·rename_i hs
    have hlt:=GB hs;obtain⟨r,hr⟩:=ic (b+1) (j+1) d (by omega) (by omega) (by omega);rw[hr];cases r with
    |ok x tq=>
     obtain⟨h1,h2,_⟩:=(Ff L f).1 _ _ _ _ (by omega) (by omega) hr;simp only;split
     ·exact⟨_,rfl⟩
     ·exact il _ _ _ _ hb (by omega) (by omega)
    |bad e j=>exact⟨_,rfl⟩
  ·rw[BU];split
   ·rename_i ho
    have hlt:=Bl ho;split
    ·exact⟨_,rfl⟩
    ·obtain⟨r,hr⟩:=ic 1 (i+1) (d+1) (by omega) (by omega) (by omega);rw[hr];cases r with
     |ok x tq=>simp only;split<;>exact⟨_,rfl⟩
     |bad e j=>exact⟨_,rfl⟩
   ·split
    ·exact⟨_,rfl⟩
    ·rename_i hs
     have hlt:=GB hs;split
     ·exact⟨_,rfl⟩
     ·obtain⟨r,hr⟩:=is (i+1) (d+1) (by omega);rw[hr];cases r with
      |ok x tq=>exact⟨_,rfl⟩
      |bad e j=>exact⟨_,rfl⟩
theorem VB (L:List Tok):∀f:Nat,(∀b i d r,Ah L f b i d=some r->Ah L (f+1) b i d=some r)/\(∀b x j d r,Dw L f b x j d=some r->Dw L (f+1) b x j d=some r)/\(∀i d r,BU L f i d=some r->BU L (f+1) i d=some r):=by
 intro f
 induction f with
 |zero=>exact⟨fun b i d r h=>by simp[Ah]at h,fun b x j d r h=>by simp[Dw]at h,fun i d r h=>by simp[BU]at h⟩
 |succ f ih=>
  obtain⟨ic,il,is⟩:=ih;refine⟨fun b i d r h=>?_,fun b x j d r h=>?_,fun i d r h=>?_⟩
  ·rw[Ah]at h⊢;split at h
   ·rename_i hb;rw[if_pos hb];exact is _ _ _ h
   ·rename_i hb;rw[if_neg hb]
    split at h
    ·rename_i hc;rw[ic _ _ _ _ hc];exact il _ _ _ _ _ h
    ·rename_i hc;rw[ic _ _ _ _ hc];exact h
    ·cases h
  ·rw[Dw]at h⊢;split at h
   ·rename_i hb;rw[if_pos hb];exact h
   ·rename_i hb;rw[if_neg hb]
    split at h
    ·rename_i hc;rw[ic _ _ _ _ hc]
     simp only;split at h
     ·rename_i hq;rw[if_pos hq];exact h
     ·rename_i hq;rw[if_neg hq];exact il _ _ _ _ _ h
    ·rename_i hc;rw[ic _ _ _ _ hc];exact h
    ·cases h
  ·rw[BU]at h⊢;split at h
   ·rename_i ho;rw[if_pos ho]
    split at h
    ·rename_i hd;rw[if_pos hd];exact h
    ·rename_i hd;rw[if_neg hd]
     split at h
     ·rename_i hc;rw[ic _ _ _ _ hc];exact h
     ·rename_i hc;rw[ic _ _ _ _ hc];exact h
     ·cases h
   ·rename_i ho;rw[if_neg ho]
    split at h
    ·rename_i hs;rw[if_pos hs];exact h
    ·rename_i hs;rw[if_neg hs]
     split at h
     ·rename_i hd;rw[if_pos hd];exact h
     ·rename_i hd;rw[if_neg hd]
      split at h
      ·rename_i hc;rw[is _ _ _ hc];exact h
      ·rename_i hc;rw[is _ _ _ hc];exact h
      ·cases h
theorem L9 {L:List Tok} {f g b i d:Nat} {r:Res} (hfg:f<=g) (h:Ah L f b i d=some r):Ah L g b i d=some r:=by
 induction g with
 |zero=>
  obtain rfl:f=0:=(by omega)
  exact h
 |succ g ih=>
  by_cases e:f=g+1
  ·subst e;exact h
  ·exact(VB L g).1 _ _ _ _ (ih (by omega))
theorem WT {L:List Tok} {f g b i d:Nat} {r q:Res} (h:Ah L f b i d=some r) (h2:Ah L g b i d=some q):r=q:=by
 have h3:=L9 (Nat.le_max_left f g) h;have h4:=L9 (Nat.le_max_right f g) h2;rw[h3]at h4;exact Option.some.inj h4
def GP (L:List Tok) (i:Nat):Res:=(Ah L (20*(L.length-i)+12) 1 i 0).getD (.bad 0 0)
theorem Jz (L:List Tok) (i:Nat):Ah L (20*(L.length-i)+12) 1 i 0=some (GP L i):=by
 obtain⟨r,hr⟩:=(Y8 L (20*(L.length-i)+12)).1 1 i 0 (by omega) (by omega) (by omega);unfold GP;rw[hr];rfl
theorem Y9 {L:List Tok} {f i:Nat} {r:Res} (h:Ah L f 1 i 0=some r):GP L i=r:=WT (Jz L i) h
theorem Kv (L:List Tok) (i:Nat):Py L i (GP L i):=(Ff L _).1 _ _ _ _ (by omega) (by omega) (Jz L i)
structure Parsed where
 nodes:List Nod
 tq:Int
 err:Int
 pl:Int
deriving DecidableEq
def EA (L:List Tok) (i:Int):Parsed:=if i<0 then⟨[],0,1,0⟩else match GP L i.toNat with
 |.bad e j=>⟨[],0,e,AN L j⟩
 |.ok x tq=>if 12<x.deep then⟨[],0,7,AN L i⟩else if 40<x.size then⟨[],0,2,AN L i⟩else⟨x.flat,tq,0,0⟩
end Go.Proofs.YthfkpalfopdmhaaGreatDoor
namespace Go.Proofs.YthfkpalfopdmhaaGreatDoor
def CW (a:Nod):Bool:=decide (0<=a.pl)&&decide (a.pl<=4000)&&(if a.op=1 then decide (0<=a.n)&&decide (a.n<=4294967296)&&a.name.isEmpty else if a.op=2 then decide (a.n=0)&&nameB a.name else decide (a.n=0)&&a.name.isEmpty)
def Bm (L:List Nod):Bool:=match Ft L with
 |some x=>decide (L.length<=40)&&L.all CW&&decide (x.deep<=12)
 |none=>false
theorem MB {L:List Nod} (h:Bm L=true):∃x,Ft L=some x/\x.ok/\L=x.flat/\L.length<=40/\L.all CW=true/\x.deep<=12:=by
 unfold Bm at h;cases hw:Ft L with
 |none=>rw[hw]at h;cases h
 |some x=>
  rw[hw]at h;simp only[Bool.and_eq_true,decide_eq_true_eq]at h;obtain⟨h1,h2⟩:=L8 hw;exact⟨x,rfl,h1,h2,h.1.1,h.1.2,h.2⟩
theorem WW {x:Ex} (h:x.ok):Bm x.flat=(decide (x.size<=40)&&x.flat.all CW&&decide (x.deep<=12)):=by
 unfold Bm;rw[Jy h,Bt]
def Ex.kids:Ex->List Ex
 |.leaf _=>[]
 |.un _ x=>[x]
 |.bin _ x y=>[x,y]
theorem LV (x:Ex):x.flat=x.top::x.kids.flatMap Ex.flat:=by cases x<;>simp[Ex.flat,Ex.top,Ex.kids]
def Ce (l:List Ex):Nat:=(l.map Ex.size).sum
def M9 (l:List Ex):Nat:=l.foldl (fun m y=>max m (y.deep+1)) 1
theorem ZE (x:Ex):x.size=1+Ce x.kids:=by cases x<;>simp[Ex.size,Ce,Ex.kids]<;>omega
theorem ZF (x:Ex):x.deep=M9 x.kids:=by
 cases x with
 |leaf a=>rfl
 |un a x=>simp[Ex.deep,M9,Ex.kids]
 |bin a x y=>simp[Ex.deep,M9,Ex.kids]
theorem YB {x:Ex} (h:x.ok):(∀y∈x.kids,y.ok)/\BD x.top.op=some x.kids.length:=by
 cases x with
 |leaf a=>exact⟨fun y hy=>by simp[Ex.kids]at hy,h⟩
 |un a x=>exact⟨fun y hy=>by simp[Ex.kids]at hy;subst hy;exact h.2,h.1⟩
 |bin a x y=>exact⟨fun z hz=>by simp[Ex.kids]at hz;rcases hz with rfl|rfl;exact h.2.1;exact h.2.2,h.1⟩
theorem WX (l:List Ex) (y:Ex):M9 (l++[y])=max (M9 l) (y.deep+1):=by simp[M9]
theorem Rq (l m:List Ex):Ce (l++m)=Ce l+Ce m:=by simp[Ce]
theorem P6 (y:Ex) (m:List Ex):Ce (y::m)=y.size+Ce m:=by simp[Ce]
theorem ZG (l:List Ex):(l.flatMap Ex.flat).length=Ce l:=by
 induction l with
 |nil=>rfl
 |cons y l ih=>rw[List.flatMap_cons,List.length_append,ih,Bt,P6]
theorem VC {x y:Ex} {d r:List Ex} (h:x.kids=d++y::r):x.flat.drop (1+Ce d)=y.flat++r.flatMap Ex.flat:=by
 rw[LV,h,Nat.add_comm,List.drop_succ_cons,List.flatMap_append,List.flatMap_cons,<-ZG,List.drop_left]
theorem YC {x y:Ex} {d r:List Ex} (h:x.kids=d++y::r) (ho:y.ok):M7 x.flat ((1+Ce d:Nat):Int)=((1+Ce d+y.size:Nat):Int):=by
 rw[U8,VC h,Rm y _ ho]
theorem NC {x y:Ex} {d r:List Ex} (h:x.kids=d++y::r):(x.flat.take (1+Ce d+y.size)).drop (1+Ce d)=y.flat:=by
 rw[List.drop_take,VC h,show 1+Ce d+y.size-(1+Ce d)=y.flat.length from by rw[Bt];omega,List.take_left]
end Go.Proofs.YthfkpalfopdmhaaGreatDoor
namespace Go.Proofs.YthfkpalfopdmhaaGreatDoor
open Go.RowKit
theorem ZM (p:UInt8->Bool) (s:ByteArray) (k j:Nat) (hk:k<=j) (hj:j<=s.size) (ha:∀i,k<=i->(hi:i<j)->p (s[i]'(by omega))=true) (he:(h:j<s.size)->p (s[j]'h)=false):
  ((s.data.toList.drop k).takeWhile p).length=j-k:=by
 obtain⟨m,rfl⟩:∃m,j=k+m:=⟨j-k,by omega⟩
 induction m generalizing k with
 |zero=>
  by_cases h:k<s.size
  ·have h2:p s[k]=false:=he h;rw[drop_at s k h,List.takeWhile_cons,if_neg (by rw[h2];simp)];simp
  ·rw[List.drop_eq_nil_of_le (by rw[E7];omega)];simp
 |succ m ih=>
  have h:k<s.size:=by omega
  rw[drop_at s k h,List.takeWhile_cons,if_pos (ha k (Nat.le_refl _) (by omega)),List.length_cons];have:=ih (k+1) (by omega) (by omega) (fun i h1 h2=>ha i (by omega) (by omega)) (fun h=>by
   have e:k+1+m=k+(m+1):=by omega
   have:=he (by omega);simp only[e];exact this)
  rw[this];omega
end Go.Proofs.YthfkpalfopdmhaaGreatDoor
