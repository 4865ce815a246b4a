/- Texts of the walk, packed. -/
import Derived.Test.YthfkpalfopdmhaaGreatDoorY01
import Derived.Test.YthfkpalfopdmhaaGreatDoorY02
import Derived.Test.YthfkpalfopdmhaaGreatDoorY00
namespace Go.Proofs.YthfkpalfopdmhaaGreatDoor
structure Nod where
 op:Int
 n:Int
 name:List UInt8
 pl:Int
deriving DecidableEq
def BG (op:Int):Option Nat:=if op=1∨op=2 then some 0 else if op=3∨op=4 then some 1 else if 5≤op∧op≤15 then some 2 else none
def JD (op:Int):Int:=match BG op with
 |some t=>t
 |none=> -1
theorem UP {op:Int} {t:Nat} (h:BG op=some t):t≤2:=by
 unfold BG at h
 split at h
 ·simp at h;omega
 ·split at h
  ·simp at h;omega
  ·split at h
   ·simp at h;omega
   ·cases h
theorem Hf {op:Int} {t:Nat} (h:BG op=some t):JD op=t:=by unfold JD;rw[h]
theorem UQ {op:Int} (h:BG op=none):JD op= -1:=by unfold JD;rw[h]
theorem GP {op:Int} {t:Nat} (h:BG op=some t):1≤op∧op≤15:=by
 unfold BG at h
 split at h
 ·omega
 ·split at h
  ·omega
  ·split at h
   ·omega
   ·cases h
inductive Ex where
 |leaf (a:Nod)
 |un (a:Nod) (x:Ex)
 |bin (a:Nod) (x y:Ex)
deriving DecidableEq
def Ex.flat:Ex→List Nod
 |.leaf a=>[a]
 |.un a x=>a::x.flat
 |.bin a x y=>a::(x.flat++y.flat)
def Ex.ok:Ex→Prop
 |.leaf a=>BG a.op=some 0
 |.un a x=>BG a.op=some 1∧x.ok
 |.bin a x y=>BG a.op=some 2∧x.ok∧y.ok
def Ex.deep:Ex→Nat
 |.leaf _=>1
 |.un _ x=>x.deep+1
 |.bin _ x y=>max x.deep y.deep+1
def Ex.size:Ex→Nat
 |.leaf _=>1
 |.un _ x=>x.size+1
 |.bin _ x y=>x.size+y.size+1
def Ex.top:Ex→Nod
 |.leaf a=>a
 |.un a _=>a
 |.bin a _ _=>a
theorem B7 (x:Ex):x.flat.length=x.size:=by
 induction x with
 |leaf a=>rfl
 |un a x ih=>simp[Ex.flat,Ex.size,ih]
 |bin a x y ih1 ih2=>simp[Ex.flat,Ex.size,ih1,ih2]
theorem GQ (x:Ex):1≤x.size:=by cases x<;>simp[Ex.size]
theorem ML (x:Ex):1≤x.deep:=by cases x<;>simp[Ex.deep]
theorem IO (x:Ex):x.deep≤x.size:=by
 induction x with
 |leaf a=>exact Nat.le_refl _
 |un a x ih=>simp[Ex.deep,Ex.size];omega
 |bin a x y ih1 ih2=>simp[Ex.deep,Ex.size];omega
theorem YG (x:Ex):∃r,x.flat=x.top::r:=by cases x<;>exact⟨_,rfl⟩
theorem MM (x:Ex):x.flat≠[]:=by obtain⟨r,h⟩:=YG x;rw[h];simp
def FN:Nat→List Nod→Option Nat
 |_,[]=>none
 |m,a::r=>match BG a.op with
  |none=>none
  |some t=>if m+t=0 then some 1 else(FN (m+t-1) r).map (·+1)
def MN (L:List Nod) (i:Int):Int:=if i<0 then -1 else match FN 0 (L.drop i.toNat)with
 |some k=>i+k
 |none=> -1
theorem JQ {m:Nat} {a:Nod} (r:List Nod) (h:BG a.op=none):FN m (a::r)=none:=by unfold FN;rw[h]
theorem JR {a:Nod} (r:List Nod) (h:BG a.op=some 0):FN 0 (a::r)=some 1:=by unfold FN;rw[h];rfl
theorem Gm {m t:Nat} {a:Nod} (r:List Nod) (h:BG a.op=some t) (h2:m+t≠0):FN m (a::r)=(FN (m+t-1) r).map (·+1):=by
 rw[FN,h];simp only;rw[if_neg h2]
theorem YH (m:Nat):∀(l:List Nod) (n:Nat),FN (m+n+1) l=(FN n l).bind fun k=>(FN m (l.drop k)).map (·+k):=by
 intro l
 induction l with
 |nil=>intro n;rfl
 |cons a r ih=>
  intro n
  cases ht:BG a.op with
  |none=>rw[JQ r ht,JQ r ht];rfl
  |some t=>
   rw[Gm r ht (by omega)]
   by_cases h0:n+t=0
   ·obtain⟨rfl,rfl⟩:n=0∧t=0:=by omega
    rw[JR r ht]
    show(FN m r).map _=(FN m (List.drop 1 (a::r))).map _
    rfl
   ·rw[Gm r ht h0,show m+n+1+t-1=m+(n+t-1)+1 from by omega,ih]
    cases h1:FN (n+t-1) r with
    |none=>rfl
    |some k=>
     show Option.map _ (Option.map _ (FN m (r.drop k)))=Option.map _ (FN m ((a::r).drop (k+1)))
     rw[List.drop_succ_cons,Option.map_map]
     rfl
theorem QCx:∀(l:List Nod) (m k:Nat),FN m l=some k→1≤k∧k≤l.length:=by
 intro l
 induction l with
 |nil=>intro m k h;cases h
 |cons a r ih=>
  intro m k h
  cases ht:BG a.op with
  |none=>rw[JQ r ht]at h;cases h
  |some t=>
   by_cases h0:m+t=0
   ·obtain⟨rfl,rfl⟩:m=0∧t=0:=by omega
    rw[JR r ht]at h
    simp at h;simp;omega
   ·rw[Gm r ht h0]at h
    cases h1:FN (m+t-1) r with
    |none=>rw[h1]at h;cases h
    |some j=>
     rw[h1]at h;simp at h
     have:=ih _ _ h1
     simp;omega
theorem Q1 (x:Ex):∀(r:List Nod),x.ok→FN 0 (x.flat++r)=some x.size:=by
 induction x with
 |leaf a=>intro r h;exact JR r h
 |un a x ih=>
  intro r h
  show FN 0 (a::(x.flat++r))=_
  rw[Gm _ h.1 (by omega)]
  show Option.map _ (FN 0 _)=_
  rw[ih r h.2];rfl
 |bin a x y ih1 ih2=>
  intro r h
  show FN 0 (a::(x.flat++y.flat++r))=_
  rw[Gm _ h.1 (by omega)]
  show Option.map _ (FN (0+0+1) _)=_
  rw[YH 0 _ 0,List.append_assoc,ih1 _ h.2.1]
  show Option.map _ (Option.map _ (FN 0 (List.drop x.size (x.flat++(y.flat++r)))))=_
  rw[←B7 x,List.drop_left,ih2 _ h.2.2,B7]
  show some (y.size+x.size+1)=some (x.size+y.size+1)
  rw[Nat.add_comm y.size]
theorem Vj:∀(l:List Nod) (m k:Nat),FN m l=some k→∃xs:List Ex,xs.length=m+1∧(∀x∈xs,x.ok)∧xs.flatMap Ex.flat=l.take k:=by
 intro l
 induction l with
 |nil=>intro m k h;cases h
 |cons a r ih=>
  intro m k h
  cases ht:BG a.op with
  |none=>rw[JQ r ht]at h;cases h
  |some t=>
   by_cases h0:m+t=0
   ·obtain⟨rfl,rfl⟩:m=0∧t=0:=by omega
    rw[JR r ht]at h
    simp at h;subst h
    exact⟨[.leaf a],rfl,fun x hx=>by simp at hx;subst hx;exact ht,rfl⟩
   ·rw[Gm r ht h0]at h
    cases h1:FN (m+t-1) r with
    |none=>rw[h1]at h;cases h
    |some j=>
     rw[h1]at h;simp at h;subst h
     obtain⟨xs,hl,ho,hf⟩:=ih _ _ h1
     have ht2:=UP ht
     match t,ht,ht2,hl with
     |0,ht,_,hl=>
      refine⟨.leaf a::xs,by simp;omega,fun x hx=>?_,?_⟩
      ·rcases List.mem_cons.1 hx with rfl|hx
       ·exact ht
       ·exact ho x hx
      ·rw[List.flatMap_cons,hf,List.take_succ_cons];rfl
     |1,ht,_,hl=>
      match xs,hl,ho,hf with
      |x::xs,hl,ho,hf=>
       refine⟨.un a x::xs,by simp only[List.length_cons]at hl⊢;omega,fun y hy=>?_,?_⟩
       ·rcases List.mem_cons.1 hy with rfl|hy
        ·exact⟨ht,ho x (by simp)⟩
        ·exact ho y (by simp[hy])
       ·rw[List.flatMap_cons]at hf⊢
        rw[List.take_succ_cons,←hf];rfl
     |2,ht,_,hl=>
      match xs,hl,ho,hf with
      |[x],hl,ho,hf=>simp at hl
      |x::y::xs,hl,ho,hf=>
       refine⟨.bin a x y::xs,by simp only[List.length_cons]at hl⊢;omega,fun z hz=>?_,?_⟩
       ·rcases List.mem_cons.1 hz with rfl|hz
        ·exact⟨ht,ho x (by simp),ho y (by simp)⟩
        ·exact ho z (by simp[hz])
       ·rw[List.flatMap_cons,List.flatMap_cons]at hf
        rw[List.flatMap_cons,List.take_succ_cons,←hf]
        simp[Ex.flat]
theorem YI {l:List Nod} {k:Nat} (h:FN 0 l=some k):∃x:Ex,x.ok∧x.flat=l.take k∧x.size=k:=by
 obtain⟨xs,hl,ho,hf⟩:=Vj l 0 k h
 match xs,hl,ho,hf with
 |[x],_,ho,hf=>
  have hk:=QCx l 0 k h
  have e:x.flat=l.take k:=by simpa using hf
  refine⟨x,ho x (by simp),e,?_⟩
  rw[←B7,e,List.length_take];omega
def JS:Nat→List Nod→Option (Ex×List Nod)
 |0,_=>none
 |_+1,[]=>none
 |f+1,a::r=>match BG a.op with
  |some 0=>some (.leaf a,r)
  |some 1=>match JS f r with
   |some (x,r1)=>some (.un a x,r1)
   |none=>none
  |some 2=>match JS f r with
   |some (x,r1)=>match JS f r1 with
    |some (y,r2)=>some (.bin a x y,r2)
    |none=>none
   |none=>none
  |_=>none
theorem Vk (x:Ex):∀(f:Nat) (r:List Nod),x.ok→x.size≤f→JS f (x.flat++r)=some (x,r):=by
 induction x with
 |leaf a=>
  intro f r h hf
  cases f with
  |zero=>simp[Ex.size]at hf
  |succ f=>show JS (f+1) (a::r)=_;rw[JS,show BG a.op=some 0 from h];rfl
 |un a x ih=>
  intro f r h hf
  cases f with
  |zero=>simp[Ex.size]at hf
  |succ f=>
   show JS (f+1) (a::(x.flat++r))=_
   rw[JS,h.1]
   simp only
   rw[ih f r h.2 (by simp[Ex.size]at hf;omega)]
 |bin a x y ih1 ih2=>
  intro f r h hf
  cases f with
  |zero=>simp[Ex.size]at hf
  |succ f=>
   show JS (f+1) (a::(x.flat++y.flat++r))=_
   rw[JS,h.1]
   simp only
   rw[List.append_assoc,ih1 f _ h.2.1 (by simp[Ex.size]at hf;omega)]
   simp only
   rw[ih2 f r h.2.2 (by simp[Ex.size]at hf;omega)]
theorem Vl:∀(f:Nat) (l:List Nod) (x:Ex) (r:List Nod),JS f l=some (x,r)→x.ok∧l=x.flat++r:=by
 intro f
 induction f with
 |zero=>intro l x r h;cases h
 |succ f ih=>
  intro l x r h
  cases l with
  |nil=>cases h
  |cons a l=>
   unfold JS at h
   split at h
   ·rename_i ht
    simp at h;obtain⟨rfl,rfl⟩:=h
    exact⟨ht,rfl⟩
   ·rename_i ht
    split at h
    ·rename_i x1 r1 h1
     simp at h;obtain⟨rfl,rfl⟩:=h
     obtain⟨i1,rfl⟩:=ih _ _ _ h1
     exact⟨⟨ht,i1⟩,rfl⟩
    ·cases h
   ·rename_i ht
    split at h
    ·rename_i x1 r1 h1
     split at h
     ·rename_i y1 r2 h2
      simp at h;obtain⟨rfl,rfl⟩:=h
      obtain⟨i1,rfl⟩:=ih _ _ _ h1
      obtain⟨i2,rfl⟩:=ih _ _ _ h2
      exact⟨⟨ht,i1,i2⟩,by simp[Ex.flat]⟩
     ·cases h
    ·cases h
   ·cases h
def F8 (L:List Nod):Option Ex:=match JS L.length L with
 |some (x,[])=>some x
 |_=>none
theorem Ia {x:Ex} (h:x.ok):F8 x.flat=some x:=by
 unfold F8
 have:=Vk x x.flat.length [] h (by rw[B7];exact Nat.le_refl _)
 rw[List.append_nil]at this
 rw[this]
theorem Ln {L:List Nod} {x:Ex} (h:F8 L=some x):x.ok∧L=x.flat:=by
 unfold F8 at h
 split at h
 ·rename_i y hy
  simp at h;subst h
  have:=Vl _ _ _ _ hy
  simpa using this
 ·cases h
theorem YJ {L:List Nod} {x:Ex} (h:F8 L=some x):MN L 0=L.length:=by
 obtain⟨ho,rfl⟩:=Ln h
 have:=Q1 x [] ho
 rw[List.append_nil]at this
 unfold MN
 rw[if_neg (by omega)]
 show(match FN 0 (x.flat.drop 0)with|some k=>(0:Int)+k|none=> -1)=_
 rw[List.drop_zero,this,B7];simp
theorem QCy {L:List Nod} (h:F8 L=none):MN L 0≠L.length:=by
 intro e
 unfold MN at e
 rw[if_neg (by omega)]at e
 simp only[Int.toNat_zero,List.drop_zero]at e
 cases hc:FN 0 L with
 |none=>rw[hc]at e;simp only at e;omega
 |some k=>
  rw[hc]at e;simp only at e
  obtain⟨x,ho,hf,_⟩:=YI hc
  rw[List.take_of_length_le (by omega)]at hf
  rw[←hf,Ia ho]at h;cases h
theorem QAS {L:List Nod} {i:Int} (h:i<0):MN L i= -1:=by unfold MN;rw[if_pos h]
theorem UR (L:List Nod) (i:Nat):MN L i=match FN 0 (L.drop i)with|some k=>((i+k:Nat):Int)|none=> -1:=by
 unfold MN
 rw[if_neg (by omega),Int.toNat_natCast]
 cases FN 0 (L.drop i)<;>simp
theorem drop_cons {L:List Nod} {i:Nat} {a:Nod} (h:L[i]?=some a):L.drop i=a::L.drop (i+1):=by
 obtain⟨hi,e⟩:=List.getElem?_eq_some_iff.1 h
 rw[List.drop_eq_getElem_cons hi,e]
end Go.Proofs.YthfkpalfopdmhaaGreatDoor
namespace Go.Proofs.YthfkpalfopdmhaaGreatDoor
def Ib:List (List UInt8):=[[],[],[],[45],[33],[43],[45],[42],[47],[37],[61,61],[33,61],[60],[60,61],[38,38],[124,124]]
def O3:List Int:=[0,0,0,6,6,4,4,5,5,5,3,3,3,3,2,1]
def A7 (op:Nat):List UInt8:=Ib.getD op []
def En (op:Nat):Int:=O3.getD op 0
def A9 (L:List Tok) (b:Nat) (i:Nat):Nat:=((List.range 16).find? (fun op=>En op==(b:Int)&&isB L i (A7 op))).getD 0
def plAt (L:List Tok) (i:Nat):Int:=match L[i]? with
 |some t=>t.pl
 |none=>0
inductive Res where
 |ok (x:Ex) (tq:Nat)
 |bad (e:Int) (j:Nat)
deriving DecidableEq
def Ic (L:List Tok) (j:Nat):Res:=.bad (if L.length≤j then 6 else 5) j
def Fg (L:List Tok) (i:Nat):Res:=match L[i]? with
 |none=>.bad 6 i
 |some t=>if t.kind=2 then .ok (.leaf ⟨1,t.n,[],t.pl⟩) (i+1)else if t.kind=1∧nameB t.text=true then .ok (.leaf ⟨2,0,t.text,t.pl⟩) (i+1)else .bad 5 i
def signN (L:List Tok) (b i:Nat):Nod:=⟨A9 L b i,0,[],plAt L i⟩
mutual
def Ax (L:List Tok):Nat→Nat→Nat→Nat→Option Res
 |0,_,_,_=>none
 |f+1,b,i,d=>if b=6 then BX L f i d else match Ax L f (b+1) i d with
  |some (.ok x tq)=>ED L f b x tq d
  |some (.bad e j)=>some (.bad e j)
  |none=>none
def ED (L:List Tok):Nat→Nat→Ex→Nat→Nat→Option Res
 |0,_,_,_,_=>none
 |f+1,b,x,i,d=>if A9 L b i=0 then some (.ok x i)else match Ax L f (b+1) (i+1) d with
  |some (.ok y tq)=>if b=3 then some (.ok (.bin (signN L b i) x y) tq)else ED L f b (.bin (signN L b i) x y) tq d
  |some (.bad e j)=>some (.bad e j)
  |none=>none
def BX (L:List Tok):Nat→Nat→Nat→Option Res
 |0,_,_=>none
 |f+1,i,d=>if isB L i [40]=true then(if d=12 then some (.bad 7 i)else match Ax L f 1 (i+1) (d+1)with
   |some (.ok x tq)=>if isB L tq [41]=true then some (.ok x (tq+1))else some (Ic L tq)
   |some (.bad e j)=>some (.bad e j)
   |none=>none)
  else if A9 L 6 i=0 then some (Fg L i)else if d=12 then some (.bad 7 i)else match BX L f (i+1) (d+1)with
   |some (.ok x tq)=>some (.ok (.un (signN L 6 i) x) tq)
   |some (.bad e j)=>some (.bad e j)
   |none=>none
end
theorem Hg {L:List Tok} {b i:Nat} (h:A9 L b i≠0):A9 L b i<16∧En (A9 L b i)=b∧isB L i (A7 (A9 L b i))=true:=by
 unfold A9 at *
 cases hf:(List.range 16).find? (fun op=>En op==(b:Int)&&isB L i (A7 op))with
 |none=>rw[hf]at h;exact absurd rfl h
 |some op=>
  rw[hf]at h
  have h1:=List.find?_some hf
  have h2:=List.mem_of_find?_eq_some hf
  simp at h1 h2
  exact⟨h2,h1.1,h1.2⟩
theorem Bt {L:List Tok} {i:Nat} {s:List UInt8} (h:isB L i s=true):i<L.length:=by
 unfold isB at h
 by_cases hi:i<L.length
 ·exact hi
 ·rw[Int.toNat_natCast,List.getElem?_eq_none (by omega)]at h;simp at h
theorem GG {L:List Tok} {b i:Nat} (h:A9 L b i≠0):i<L.length:=Bt (Hg h).2.2
theorem O4:∀op:Fin 16,(En op=6→BG (op:Nat)=some 1)∧(∀b:Fin 6,1≤b.1→En op=(b.1:Int)→BG (op:Nat)=some 2):=by decide
theorem QAT {L:List Tok} {i:Nat} (h:A9 L 6 i≠0):BG (A9 L 6 i:Nat)=some 1:=by
 obtain⟨h1,h2,_⟩:=Hg h
 exact(O4 ⟨_,h1⟩).1 h2
theorem QAU {L:List Tok} {b i:Nat} (hb:1≤b) (hb2:b≤5) (h:A9 L b i≠0):BG (A9 L b i:Nat)=some 2:=by
 obtain⟨h1,h2,_⟩:=Hg h
 exact(O4 ⟨_,h1⟩).2 ⟨b,by omega⟩ hb h2
def US (L:List Tok) (a:Nod):Prop:=∃t∈L,a.pl=t.pl∧((t.kind=2∧a.op=1∧a.n=t.n∧a.name=[])∨(t.kind=1∧nameB t.text=true∧a.op=2∧a.n=0∧a.name=t.text)∨(3≤a.op∧a.op≤15∧a.n=0∧a.name=[]))
def O5 (L:List Tok) (i:Nat) (r:Res):Prop:=match r with
 |.ok x tq=>i<tq∧tq≤L.length∧x.ok∧x.size≤tq-i∧∀a∈x.flat,US L a
 |.bad e j=>(e=5∨e=6∨e=7)∧i≤j∧(j≤L.length∨j=i)
theorem UT {L:List Tok} {b i:Nat} (h:A9 L b i≠0) (ht:BG (A9 L b i:Nat)≠some 0):US L (signN L b i):=by
 have hlt:=GG h
 obtain⟨h1,_,_⟩:=Hg h
 have e:L[i]?=some L[i]:=List.getElem?_eq_getElem hlt
 refine⟨L[i],List.getElem_mem hlt,?_,.inr (.inr ⟨?_,?_,rfl,rfl⟩)⟩
 ·show plAt L i=_
  unfold plAt;rw[e]
 ·show(3:Int)≤(A9 L b i:Nat)
  unfold BG at ht
  split at ht
  ·exact absurd rfl ht
  ·omega
 ·show((A9 L b i:Nat):Int)≤15
  omega
theorem YK (L:List Tok) (i:Nat):O5 L i (Fg L i):=by
 unfold Fg
 cases h:L[i]? with
 |none=>exact⟨.inr (.inl rfl),Nat.le_refl _,.inr rfl⟩
 |some t=>
  have hi:=(List.getElem?_eq_some_iff.1 h).1
  have hm:=List.mem_of_getElem? h
  simp only
  split
  ·rename_i hk
   refine⟨by omega,by omega,rfl,by simp[Ex.size],fun a ha=>?_⟩
   simp[Ex.flat]at ha;subst ha
   exact⟨t,hm,rfl,.inl ⟨hk,rfl,rfl,rfl⟩⟩
  ·split
   ·rename_i hk
    refine⟨by omega,by omega,rfl,by simp[Ex.size],fun a ha=>?_⟩
    simp[Ex.flat]at ha;subst ha
    exact⟨t,hm,rfl,.inr (.inl ⟨hk.1,hk.2,rfl,rfl,rfl⟩)⟩
   ·exact⟨.inl rfl,Nat.le_refl _,.inr rfl⟩
theorem Vm (L:List Tok) (i j:Nat) (h:i≤j) (h2:j≤L.length):O5 L i (Ic L j):=by
 unfold Ic
 show(_∨_∨_)∧_
 refine⟨?_,h,.inl h2⟩
 split
 ·exact .inr (.inl rfl)
 ·exact .inl rfl
def Q2 (L:List Tok) (i:Nat) (x:Ex) (j:Nat):Prop:=i<j∧j≤L.length∧x.ok∧x.size≤j-i∧∀a∈x.flat,US L a
theorem UU {L:List Tok} {b i j k:Nat} {x y:Ex} (hb:1≤b) (hb2:b≤5) (h:A9 L b j≠0) (hx:Q2 L i x j) (hy:O5 L (j+1) (.ok y k)):Q2 L i (.bin (signN L b j) x y) k:=by
 obtain⟨h1,h2,h3,h4,h5⟩:=hx
 obtain⟨g1,g2,g3,g4,g5⟩:=hy
 have ht:=QAU hb hb2 h
 refine⟨by omega,g2,⟨ht,h3,g3⟩,by simp[Ex.size];omega,fun a ha=>?_⟩
 simp only[Ex.flat,List.mem_cons,List.mem_append]at ha
 rcases ha with rfl|ha|ha
 ·exact UT h (by rw[ht];simp)
 ·exact h5 a ha
 ·exact g5 a ha
theorem Fh (L:List Tok):∀f:Nat,(∀b i d r,1≤b→b≤6→Ax L f b i d=some r→O5 L i r)∧(∀b x i j d r,1≤b→b≤5→Q2 L i x j→ED L f b x j d=some r→O5 L i r)∧(∀i d r,BX L f i d=some r→O5 L i r):=by
 intro f
 induction f with
 |zero=>exact⟨fun b i d r _ _ h=>by simp[Ax]at h,fun b x i j d r _ _ _ h=>by simp[ED]at h,fun i d r h=>by simp[BX]at h⟩
 |succ f ih=>
  obtain⟨ic,il,is⟩:=ih
  refine⟨fun b i d r hb hb2 h=>?_,fun b x i j d r hb hb2 hx h=>?_,fun i d r h=>?_⟩
  ·rw[Ax]at h
   split at h
   ·exact is _ _ _ h
   ·split at h
    ·rename_i hc
     have:=ic _ _ _ _ (by omega) (by omega) hc
     exact il _ _ _ _ _ _ hb (by omega) this h
    ·rename_i hc
     simp at h;subst h
     exact ic _ _ _ _ (by omega) (by omega) hc
    ·cases h
  ·rw[ED]at h
   split at h
   ·simp at h;subst h;exact hx
   ·rename_i hs
    split at h
    ·rename_i hc
     have hy:=ic _ _ _ _ (by omega) (by omega) hc
     have hxy:=UU hb hb2 hs hx hy
     split at h
     ·simp at h;subst h;exact hxy
     ·exact il _ _ _ _ _ _ hb hb2 hxy h
    ·rename_i hc
     simp at h;subst h
     have hlt:=GG hs
     obtain⟨h1,h2,h3⟩:=ic _ _ _ _ (by omega) (by omega) hc
     have h4:=hx.1
     exact⟨h1,by omega,by omega⟩
    ·cases h
  ·rw[BX]at h
   split at h
   ·rename_i ho
    have hlt:=Bt ho
    split at h
    ·simp at h;subst h;exact⟨.inr (.inr rfl),Nat.le_refl _,.inr rfl⟩
    ·split at h
     ·rename_i hc
      obtain⟨h1,h2,h3,h4,h5⟩:=ic _ _ _ _ (by omega) (by omega) hc
      split at h
      ·rename_i hcl
       simp at h;subst h
       have:=Bt hcl
       exact⟨by omega,by omega,h3,by omega,h5⟩
      ·simp at h;subst h;exact Vm _ _ _ (by omega) h2
     ·rename_i hc
      simp at h;subst h
      obtain⟨h1,h2,h3⟩:=ic _ _ _ _ (by omega) (by omega) hc
      exact⟨h1,by omega,by omega⟩
     ·cases h
   ·split at h
    ·simp at h;subst h;exact YK _ _
    ·rename_i hs
     split at h
     ·simp at h;subst h;exact⟨.inr (.inr rfl),Nat.le_refl _,.inr rfl⟩
     ·split at h
      ·rename_i hc
       simp at h;subst h
       obtain⟨h1,h2,h3,h4,h5⟩:=is _ _ _ hc
       have ht:=QAT hs
       refine⟨by omega,h2,⟨ht,h3⟩,by simp[Ex.size];omega,fun a ha=>?_⟩
       simp only[Ex.flat,List.mem_cons]at ha
       rcases ha with rfl|ha
       ·exact UT hs (by rw[ht];simp)
       ·exact h5 a ha
      ·rename_i hc
       simp at h;subst h
       have hlt:=GG hs
       obtain⟨h1,h2,h3⟩:=is _ _ _ hc
       exact⟨h1,by omega,by omega⟩
      ·cases h
theorem YL (L:List Tok):∀f:Nat,(∀b i d,1≤b→b≤6→20*(L.length-i)+2*(7-b)≤f→∃r,Ax L f b i d=some r)∧(∀b x j d,1≤b→b≤5→20*(L.length-j)+1≤f→∃r,ED L f b x j d=some r)∧(∀i d,20*(L.length-i)+1≤f→∃r,BX L f i d=some r):=by
 intro f
 induction f with
 |zero=>exact⟨fun b i d _ _ h=>by omega,fun b x j d _ _ h=>by omega,fun i d h=>by omega⟩
 |succ f ih=>
  obtain⟨ic,il,is⟩:=ih
  refine⟨fun b i d hb hb2 h=>?_,fun b x j d hb hb2 h=>?_,fun i d h=>?_⟩
  ·rw[Ax]
   split
   ·exact is _ _ (by omega)
   ·obtain⟨r,hr⟩:=ic (b+1) i d (by omega) (by omega) (by omega)
    rw[hr]
    cases r with
    |ok x tq=>
     obtain⟨h1,h2,_⟩:=(Fh L f).1 _ _ _ _ (by omega) (by omega) hr
     exact il _ _ _ _ hb (by omega) (by omega)
    |bad e j=>exact⟨_,rfl⟩
  ·rw[ED]
   split
   ·exact⟨_,rfl⟩
   ·rename_i hs
    have hlt:=GG hs
    obtain⟨r,hr⟩:=ic (b+1) (j+1) d (by omega) (by omega) (by omega)
    rw[hr]
    cases r with
    |ok x tq=>
     obtain⟨h1,h2,_⟩:=(Fh L f).1 _ _ _ _ (by omega) (by omega) hr
     simp only
     split
     ·exact⟨_,rfl⟩
     ·exact il _ _ _ _ hb (by omega) (by omega)
    |bad e j=>exact⟨_,rfl⟩
  ·rw[BX]
   split
   ·rename_i ho
    have hlt:=Bt ho
    split
    ·exact⟨_,rfl⟩
    ·obtain⟨r,hr⟩:=ic 1 (i+1) (d+1) (by omega) (by omega) (by omega)
     rw[hr]
     cases r with
     |ok x tq=>simp only;split<;>exact⟨_,rfl⟩
     |bad e j=>exact⟨_,rfl⟩
   ·split
    ·exact⟨_,rfl⟩
    ·rename_i hs
     have hlt:=GG hs
     split
     ·exact⟨_,rfl⟩
     ·obtain⟨r,hr⟩:=is (i+1) (d+1) (by omega)
      rw[hr]
      cases r with
      |ok x tq=>exact⟨_,rfl⟩
      |bad e j=>exact⟨_,rfl⟩
theorem UV (L:List Tok):∀f:Nat,(∀b i d r,Ax L f b i d=some r→Ax L (f+1) b i d=some r)∧(∀b x j d r,ED L f b x j d=some r→ED L (f+1) b x j d=some r)∧(∀i d r,BX L f i d=some r→BX L (f+1) i d=some r):=by
 intro f
 induction f with
 |zero=>exact⟨fun b i d r h=>by simp[Ax]at h,fun b x j d r h=>by simp[ED]at h,fun i d r h=>by simp[BX]at h⟩
 |succ f ih=>
  obtain⟨ic,il,is⟩:=ih
  refine⟨fun b i d r h=>?_,fun b x j d r h=>?_,fun i d r h=>?_⟩
  ·rw[Ax]at h⊢
   split at h
   ·rename_i hb;rw[if_pos hb];exact is _ _ _ h
   ·rename_i hb;rw[if_neg hb]
    split at h
    ·rename_i hc;rw[ic _ _ _ _ hc];exact il _ _ _ _ _ h
    ·rename_i hc;rw[ic _ _ _ _ hc];exact h
    ·cases h
  ·rw[ED]at h⊢
   split at h
   ·rename_i hb;rw[if_pos hb];exact h
   ·rename_i hb;rw[if_neg hb]
    split at h
    ·rename_i hc;rw[ic _ _ _ _ hc]
     simp only
     split at h
     ·rename_i hq;rw[if_pos hq];exact h
     ·rename_i hq;rw[if_neg hq];exact il _ _ _ _ _ h
    ·rename_i hc;rw[ic _ _ _ _ hc];exact h
    ·cases h
  ·rw[BX]at h⊢
   split at h
   ·rename_i ho;rw[if_pos ho]
    split at h
    ·rename_i hd;rw[if_pos hd];exact h
    ·rename_i hd;rw[if_neg hd]
     split at h
     ·rename_i hc;rw[ic _ _ _ _ hc];exact h
     ·rename_i hc;rw[ic _ _ _ _ hc];exact h
     ·cases h
   ·rename_i ho;rw[if_neg ho]
    split at h
    ·rename_i hs;rw[if_pos hs];exact h
    ·rename_i hs;rw[if_neg hs]
     split at h
     ·rename_i hd;rw[if_pos hd];exact h
     ·rename_i hd;rw[if_neg hd]
      split at h
      ·rename_i hc;rw[is _ _ _ hc];exact h
      ·rename_i hc;rw[is _ _ _ hc];exact h
      ·cases h
theorem Lo {L:List Tok} {f g b i d:Nat} {r:Res} (hfg:f≤g) (h:Ax L f b i d=some r):Ax L g b i d=some r:=by
 induction g with
 |zero=>
  obtain rfl:f=0:=(by omega)
  exact h
 |succ g ih=>
  by_cases e:f=g+1
  ·subst e;exact h
  ·exact(UV L g).1 _ _ _ _ (ih (by omega))
theorem Vo {L:List Tok} {f g b i d:Nat} {r q:Res} (h:Ax L f b i d=some r) (h2:Ax L g b i d=some q):r=q:=by
 have h3:=Lo (Nat.le_max_left f g) h
 have h4:=Lo (Nat.le_max_right f g) h2
 rw[h3]at h4;exact Option.some.inj h4
def F9 (L:List Tok) (i:Nat):Res:=(Ax L (20*(L.length-i)+12) 1 i 0).getD (.bad 0 0)
theorem Jr (L:List Tok) (i:Nat):Ax L (20*(L.length-i)+12) 1 i 0=some (F9 L i):=by
 obtain⟨r,hr⟩:=(YL L (20*(L.length-i)+12)).1 1 i 0 (by omega) (by omega) (by omega)
 unfold F9;rw[hr];rfl
theorem YM {L:List Tok} {f i:Nat} {r:Res} (h:Ax L f 1 i 0=some r):F9 L i=r:=Vo (Jr L i) h
theorem KP (L:List Tok) (i:Nat):O5 L i (F9 L i):=(Fh L _).1 _ _ _ _ (by omega) (by omega) (Jr L i)
structure Parsed where
 nodes:List Nod
 tq:Int
 err:Int
 pl:Int
deriving DecidableEq
def EH (L:List Tok) (i:Int):Parsed:=if i<0 then⟨[],0,1,0⟩else match F9 L i.toNat with
 |.bad e j=>⟨[],0,e,AT L j⟩
 |.ok x tq=>if 12<x.deep then⟨[],0,7,AT L i⟩else if 40<x.size then⟨[],0,2,AT L i⟩else⟨x.flat,tq,0,0⟩
end Go.Proofs.YthfkpalfopdmhaaGreatDoor
namespace Go.Proofs.YthfkpalfopdmhaaGreatDoor
def CN (a:Nod):Bool:=decide (0≤a.pl)&&decide (a.pl≤4000)&&(if a.op=1 then decide (0≤a.n)&&decide (a.n≤4294967296)&&a.name.isEmpty else if a.op=2 then decide (a.n=0)&&nameB a.name else decide (a.n=0)&&a.name.isEmpty)
def BZ (L:List Nod):Bool:=match F8 L with
 |some x=>decide (L.length≤40)&&L.all CN&&decide (x.deep≤12)
 |none=>false
theorem Jt {L:List Nod} (h:BZ L=true):∃x,F8 L=some x∧x.ok∧L=x.flat∧L.length≤40∧L.all CN=true∧x.deep≤12:=by
 unfold BZ at h
 cases hw:F8 L with
 |none=>rw[hw]at h;cases h
 |some x=>
  rw[hw]at h
  simp only[Bool.and_eq_true,decide_eq_true_eq]at h
  obtain⟨h1,h2⟩:=Ln hw
  exact⟨x,rfl,h1,h2,h.1.1,h.1.2,h.2⟩
theorem PD {x:Ex} (h:x.ok):BZ x.flat=(decide (x.size≤40)&&x.flat.all CN&&decide (x.deep≤12)):=by
 unfold BZ;rw[Ia h,B7]
def Ex.kids:Ex→List Ex
 |.leaf _=>[]
 |.un _ x=>[x]
 |.bin _ x y=>[x,y]
theorem LC (x:Ex):x.flat=x.top::x.kids.flatMap Ex.flat:=by cases x<;>simp[Ex.flat,Ex.top,Ex.kids]
def C7 (l:List Ex):Nat:=(l.map Ex.size).sum
def MP (l:List Ex):Nat:=l.foldl (fun m y=>max m (y.deep+1)) 1
theorem YR (x:Ex):x.size=1+C7 x.kids:=by cases x<;>simp[Ex.size,C7,Ex.kids]<;>omega
theorem YS (x:Ex):x.deep=MP x.kids:=by
 cases x with
 |leaf a=>rfl
 |un a x=>simp[Ex.deep,MP,Ex.kids]
 |bin a x y=>simp[Ex.deep,MP,Ex.kids]
theorem XX {x:Ex} (h:x.ok):(∀y∈x.kids,y.ok)∧BG x.top.op=some x.kids.length:=by
 cases x with
 |leaf a=>exact⟨fun y hy=>by simp[Ex.kids]at hy,h⟩
 |un a x=>exact⟨fun y hy=>by simp[Ex.kids]at hy;subst hy;exact h.2,h.1⟩
 |bin a x y=>exact⟨fun z hz=>by simp[Ex.kids]at hz;rcases hz with rfl|rfl;exact h.2.1;exact h.2.2,h.1⟩
theorem Vr (l:List Ex) (y:Ex):MP (l++[y])=max (MP l) (y.deep+1):=by simp[MP]
theorem Q4 (l m:List Ex):C7 (l++m)=C7 l+C7 m:=by simp[C7]
theorem PE (y:Ex) (m:List Ex):C7 (y::m)=y.size+C7 m:=by simp[C7]
theorem YT (l:List Ex):(l.flatMap Ex.flat).length=C7 l:=by
 induction l with
 |nil=>rfl
 |cons y l ih=>rw[List.flatMap_cons,List.length_append,ih,B7,PE]
theorem UW {x y:Ex} {d r:List Ex} (h:x.kids=d++y::r):x.flat.drop (1+C7 d)=y.flat++r.flatMap Ex.flat:=by
 rw[LC,h,Nat.add_comm,List.drop_succ_cons,List.flatMap_append,List.flatMap_cons,←YT,List.drop_left]
theorem XY {x y:Ex} {d r:List Ex} (h:x.kids=d++y::r) (ho:y.ok):MN x.flat ((1+C7 d:Nat):Int)=((1+C7 d+y.size:Nat):Int):=by
 rw[UR,UW h,Q1 y _ ho]
theorem MQ {x y:Ex} {d r:List Ex} (h:x.kids=d++y::r):(x.flat.take (1+C7 d+y.size)).drop (1+C7 d)=y.flat:=by
 rw[List.drop_take,UW h,show 1+C7 d+y.size-(1+C7 d)=y.flat.length from by rw[B7];omega,List.take_left]
end Go.Proofs.YthfkpalfopdmhaaGreatDoor
namespace Go.Proofs.YthfkpalfopdmhaaGreatDoor
open Go.RowKit
theorem YZ (p:UInt8→Bool) (s:ByteArray) (k j:Nat) (hk:k≤j) (hj:j≤s.size) (ha:∀i,k≤i→(hi:i<j)→p (s[i]'(by omega))=true) (he:(h:j<s.size)→p (s[j]'h)=false):
  ((s.data.toList.drop k).takeWhile p).length=j-k:=by
 obtain⟨m,rfl⟩:∃m,j=k+m:=⟨j-k,by omega⟩
 induction m generalizing k with
 |zero=>
  by_cases h:k<s.size
  ·have h2:p s[k]=false:=he h
   rw[drop_at s k h,List.takeWhile_cons,if_neg (by rw[h2];simp)];simp
  ·rw[List.drop_eq_nil_of_le (by rw[Ff];omega)];simp
 |succ m ih=>
  have h:k<s.size:=by omega
  rw[drop_at s k h,List.takeWhile_cons,if_pos (ha k (Nat.le_refl _) (by omega)),List.length_cons]
  have:=ih (k+1) (by omega) (by omega) (fun i h1 h2=>ha i (by omega) (by omega)) (fun h=>by
   have e:k+1+m=k+(m+1):=by omega
   have:=he (by omega)
   simp only[e];exact this)
  rw[this];omega
end Go.Proofs.YthfkpalfopdmhaaGreatDoor
