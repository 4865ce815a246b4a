/- Texts of the walk, packed. -/
import Derived.Test.YthfkpalfopdmhaaGreatDoorX01
import Derived.Test.YthfkpalfopdmhaaGreatDoorX02
import Derived.RangeFuncFrom
import Derived.RangeFuncCalls
import Derived.RangeFuncLeaves
import Derived.Test.YthfkpalfopdmhaaGreatDoorX00
namespace Go.Proofs.YthfkpalfopdmhaaGreatDoor
def Ie:List (List UInt8):=[[],[],[],[45],[33],[43],[45],[42],[47],[37],[61,61],[33,61],[60],[60,61],[38,38],[124,124]]
def O6:List Int:=[0,0,0,6,6,4,4,5,5,5,3,3,3,3,2,1]
def A7 (op:Nat):List UInt8:=Ie.getD op []
def En (op:Nat):Int:=O6.getD op 0
def A9 (L:List Tok) (b:Nat) (i:Nat):Nat:=((List.range 16).find? (fun op=>En op==(b:Int)&&isB L i (A7 op))).getD 0
def plAt (L:List Tok) (i:Nat):Int:=match L[i]? with
 |some t=>t.pl
 |none=>0
inductive Res where
 |ok (x:Ex) (tq:Nat)
 |bad (e:Int) (j:Nat)
deriving DecidableEq
def If (L:List Tok) (j:Nat):Res:=.bad (if L.length≤j then 6 else 5) j
def Ff (L:List Tok) (i:Nat):Res:=match L[i]? with
 |none=>.bad 6 i
 |some t=>if t.kind=2 then .ok (.leaf ⟨1,t.n,[],t.pl⟩) (i+1)else if t.kind=1∧nameB t.text=true then .ok (.leaf ⟨2,0,t.text,t.pl⟩) (i+1)else .bad 5 i
def signN (L:List Tok) (b i:Nat):Nod:=⟨A9 L b i,0,[],plAt L i⟩
mutual
def Ax (L:List Tok):Nat→Nat→Nat→Nat→Option Res
 |0,_,_,_=>none
 |f+1,b,i,d=>if b=6 then BX L f i d else match Ax L f (b+1) i d with
  |some (.ok x tq)=>ED L f b x tq d
  |some (.bad e j)=>some (.bad e j)
  |none=>none
def ED (L:List Tok):Nat→Nat→Ex→Nat→Nat→Option Res
 |0,_,_,_,_=>none
 |f+1,b,x,i,d=>if A9 L b i=0 then some (.ok x i)else match Ax L f (b+1) (i+1) d with
  |some (.ok y tq)=>if b=3 then some (.ok (.bin (signN L b i) x y) tq)else ED L f b (.bin (signN L b i) x y) tq d
  |some (.bad e j)=>some (.bad e j)
  |none=>none
def BX (L:List Tok):Nat→Nat→Nat→Option Res
 |0,_,_=>none
 |f+1,i,d=>if isB L i [40]=true then(if d=12 then some (.bad 7 i)else match Ax L f 1 (i+1) (d+1)with
   |some (.ok x tq)=>if isB L tq [41]=true then some (.ok x (tq+1))else some (If L tq)
   |some (.bad e j)=>some (.bad e j)
   |none=>none)
  else if A9 L 6 i=0 then some (Ff L i)else if d=12 then some (.bad 7 i)else match BX L f (i+1) (d+1)with
   |some (.ok x tq)=>some (.ok (.un (signN L 6 i) x) tq)
   |some (.bad e j)=>some (.bad e j)
   |none=>none
end
theorem Hh {L:List Tok} {b i:Nat} (h:A9 L b i≠0):A9 L b i<16∧En (A9 L b i)=b∧isB L i (A7 (A9 L b i))=true:=by
 unfold A9 at *;cases hf:(List.range 16).find? (fun op=>En op==(b:Int)&&isB L i (A7 op))with
 |none=>rw[hf]at h;exact absurd rfl h
 |some op=>
  rw[hf]at h;have h1:=List.find?_some hf;have h2:=List.mem_of_find?_eq_some hf;simp at h1 h2;exact⟨h2,h1.1,h1.2⟩
theorem Bt {L:List Tok} {i:Nat} {s:List UInt8} (h:isB L i s=true):i<L.length:=by
 unfold isB at h;by_cases hi:i<L.length
 ·exact hi
 ·rw[Int.toNat_natCast,List.getElem?_eq_none (by omega)]at h;simp at h
theorem GG {L:List Tok} {b i:Nat} (h:A9 L b i≠0):i<L.length:=Bt (Hh h).2.2
theorem O7:∀op:Fin 16,(En op=6→BG (op:Nat)=some 1)∧(∀b:Fin 6,1≤b.1→En op=(b.1:Int)→BG (op:Nat)=some 2):=by decide
theorem QAS {L:List Tok} {i:Nat} (h:A9 L 6 i≠0):BG (A9 L 6 i:Nat)=some 1:=by
 obtain⟨h1,h2,_⟩:=Hh h;exact(O7 ⟨_,h1⟩).1 h2
theorem QAT {L:List Tok} {b i:Nat} (hb:1≤b) (hb2:b≤5) (h:A9 L b i≠0):BG (A9 L b i:Nat)=some 2:=by
 obtain⟨h1,h2,_⟩:=Hh h;exact(O7 ⟨_,h1⟩).2 ⟨b,by omega⟩ hb h2
def UT (L:List Tok) (a:Nod):Prop:=∃t∈L,a.pl=t.pl∧((t.kind=2∧a.op=1∧a.n=t.n∧a.name=[])∨(t.kind=1∧nameB t.text=true∧a.op=2∧a.n=0∧a.name=t.text)∨(3≤a.op∧a.op≤15∧a.n=0∧a.name=[]))
def O8 (L:List Tok) (i:Nat) (r:Res):Prop:=match r with
 |.ok x tq=>i<tq∧tq≤L.length∧x.ok∧x.size≤tq-i∧∀a∈x.flat,UT L a
 |.bad e j=>(e=5∨e=6∨e=7)∧i≤j∧(j≤L.length∨j=i)
theorem UU {L:List Tok} {b i:Nat} (h:A9 L b i≠0) (ht:BG (A9 L b i:Nat)≠some 0):UT L (signN L b i):=by
 have hlt:=GG h;obtain⟨h1,_,_⟩:=Hh h;have e:L[i]?=some L[i]:=List.getElem?_eq_getElem hlt;refine⟨L[i],List.getElem_mem hlt,?_,.inr (.inr ⟨?_,?_,rfl,rfl⟩)⟩
 ·show plAt L i=_;unfold plAt;rw[e]
 ·show(3:Int)≤(A9 L b i:Nat);unfold BG at ht;split at ht
  ·exact absurd rfl ht
  ·omega
 ·show((A9 L b i:Nat):Int)≤15;omega
theorem YK (L:List Tok) (i:Nat):O8 L i (Ff L i):=by
 unfold Ff;cases h:L[i]? with
 |none=>exact⟨.inr (.inl rfl),Nat.le_refl _,.inr rfl⟩
 |some t=>
  have hi:=(List.getElem?_eq_some_iff.1 h).1;have hm:=List.mem_of_getElem? h;simp only;split
  ·rename_i hk
   refine⟨by omega,by omega,rfl,by simp[Ex.size],fun a ha=>?_⟩;simp[Ex.flat]at ha;subst ha;exact⟨t,hm,rfl,.inl ⟨hk,rfl,rfl,rfl⟩⟩
  ·split
   ·rename_i hk
    refine⟨by omega,by omega,rfl,by simp[Ex.size],fun a ha=>?_⟩;simp[Ex.flat]at ha;subst ha;exact⟨t,hm,rfl,.inr (.inl ⟨hk.1,hk.2,rfl,rfl,rfl⟩)⟩
   ·exact⟨.inl rfl,Nat.le_refl _,.inr rfl⟩
theorem Vm (L:List Tok) (i j:Nat) (h:i≤j) (h2:j≤L.length):O8 L i (If L j):=by
 unfold If;show(_∨_∨_)∧_;refine⟨?_,h,.inl h2⟩;split
 ·exact .inr (.inl rfl)
 ·exact .inl rfl
def Q5 (L:List Tok) (i:Nat) (x:Ex) (j:Nat):Prop:=i<j∧j≤L.length∧x.ok∧x.size≤j-i∧∀a∈x.flat,UT L a
theorem UV {L:List Tok} {b i j k:Nat} {x y:Ex} (hb:1≤b) (hb2:b≤5) (h:A9 L b j≠0) (hx:Q5 L i x j) (hy:O8 L (j+1) (.ok y k)):Q5 L i (.bin (signN L b j) x y) k:=by
 obtain⟨h1,h2,h3,h4,h5⟩:=hx;obtain⟨g1,g2,g3,g4,g5⟩:=hy;have ht:=QAT hb hb2 h;refine⟨by omega,g2,⟨ht,h3,g3⟩,by simp[Ex.size];omega,fun a ha=>?_⟩;simp only[Ex.flat,List.mem_cons,List.mem_append]at ha;rcases ha with rfl|ha|ha
 ·exact UU h (by rw[ht];simp)
 ·exact h5 a ha
 ·exact g5 a ha
theorem Fg (L:List Tok):∀f:Nat,(∀b i d r,1≤b→b≤6→Ax L f b i d=some r→O8 L i r)∧(∀b x i j d r,1≤b→b≤5→Q5 L i x j→ED L f b x j d=some r→O8 L i r)∧(∀i d r,BX L f i d=some r→O8 L i r):=by
 intro f
 induction f with
 |zero=>exact⟨fun b i d r _ _ h=>by simp[Ax]at h,fun b x i j d r _ _ _ h=>by simp[ED]at h,fun i d r h=>by simp[BX]at h⟩
 |succ f ih=>
  obtain⟨ic,il,is⟩:=ih;refine⟨fun b i d r hb hb2 h=>?_,fun b x i j d r hb hb2 hx h=>?_,fun i d r h=>?_⟩
  ·rw[Ax]at h;split at h
   ·exact is _ _ _ h
   ·split at h
    ·rename_i hc
     have:=ic _ _ _ _ (by omega) (by omega) hc;exact il _ _ _ _ _ _ hb (by omega) this h
    ·rename_i hc
     simp at h;subst h;exact ic _ _ _ _ (by omega) (by omega) hc
    ·cases h
  ·rw[ED]at h;split at h
   ·simp at h;subst h;exact hx
   ·rename_i hs
    split at h
    ·rename_i hc
     have hy:=ic _ _ _ _ (by omega) (by omega) hc;have hxy:=UV hb hb2 hs hx hy;split at h
     ·simp at h;subst h;exact hxy
     ·exact il _ _ _ _ _ _ hb hb2 hxy h
    ·rename_i hc
     simp at h;subst h;have hlt:=GG hs;obtain⟨h1,h2,h3⟩:=ic _ _ _ _ (by omega) (by omega) hc;have h4:=hx.1;exact⟨h1,by omega,by omega⟩
    ·cases h
  ·rw[BX]at h;split at h
   ·rename_i ho
    have hlt:=Bt ho;split at h
    ·simp at h;subst h;exact⟨.inr (.inr rfl),Nat.le_refl _,.inr rfl⟩
    ·split at h
     ·rename_i hc
      obtain⟨h1,h2,h3,h4,h5⟩:=ic _ _ _ _ (by omega) (by omega) hc;split at h
      ·rename_i hcl
       simp at h;subst h;have:=Bt hcl;exact⟨by omega,by omega,h3,by omega,h5⟩
      ·simp at h;subst h;exact Vm _ _ _ (by omega) h2
     ·rename_i hc
      simp at h;subst h;obtain⟨h1,h2,h3⟩:=ic _ _ _ _ (by omega) (by omega) hc;exact⟨h1,by omega,by omega⟩
     ·cases h
   ·split at h
    ·simp at h;subst h;exact YK _ _
    ·rename_i hs
     split at h
     ·simp at h;subst h;exact⟨.inr (.inr rfl),Nat.le_refl _,.inr rfl⟩
     ·split at h
      ·rename_i hc
       simp at h;subst h;obtain⟨h1,h2,h3,h4,h5⟩:=is _ _ _ hc;have ht:=QAS hs;refine⟨by omega,h2,⟨ht,h3⟩,by simp[Ex.size];omega,fun a ha=>?_⟩;simp only[Ex.flat,List.mem_cons]at ha;rcases ha with rfl|ha
       ·exact UU hs (by rw[ht];simp)
       ·exact h5 a ha
      ·rename_i hc
       simp at h;subst h;have hlt:=GG hs;obtain⟨h1,h2,h3⟩:=is _ _ _ hc;exact⟨h1,by omega,by omega⟩
      ·cases h
theorem YL (L:List Tok):∀f:Nat,(∀b i d,1≤b→b≤6→20*(L.length-i)+2*(7-b)≤f→∃r,Ax L f b i d=some r)∧(∀b x j d,1≤b→b≤5→20*(L.length-j)+1≤f→∃r,ED L f b x j d=some r)∧(∀i d,20*(L.length-i)+1≤f→∃r,BX L f i d=some r):=by
 intro f
 induction f with
 |zero=>exact⟨fun b i d _ _ h=>by omega,fun b x j d _ _ h=>by omega,fun i d h=>by omega⟩
 |succ f ih=>
  obtain⟨ic,il,is⟩:=ih;refine⟨fun b i d hb hb2 h=>?_,fun b x j d hb hb2 h=>?_,fun i d h=>?_⟩
  ·rw[Ax];split
   ·exact is _ _ (by omega)
   ·obtain⟨r,hr⟩:=ic (b+1) i d (by omega) (by omega) (by omega);rw[hr];cases r with
    |ok x tq=>
     obtain⟨h1,h2,_⟩:=(Fg L f).1 _ _ _ _ (by omega) (by omega) hr;exact il _ _ _ _ hb (by omega) (by omega)
    |bad e j=>exact⟨_,rfl⟩
  ·rw[ED];split
   ·exact⟨_,rfl⟩
   ·rename_i hs
    have hlt:=GG hs;obtain⟨r,hr⟩:=ic (b+1) (j+1) d (by omega) (by omega) (by omega);rw[hr];cases r with
    |ok x tq=>
     obtain⟨h1,h2,_⟩:=(Fg L f).1 _ _ _ _ (by omega) (by omega) hr;simp only;split
     ·exact⟨_,rfl⟩
     ·exact il _ _ _ _ hb (by omega) (by omega)
    |bad e j=>exact⟨_,rfl⟩
  ·rw[BX];split
   ·rename_i ho
    have hlt:=Bt ho;split
    ·exact⟨_,rfl⟩
    ·obtain⟨r,hr⟩:=ic 1 (i+1) (d+1) (by omega) (by omega) (by omega);rw[hr];cases r with
     |ok x tq=>simp only;split<;>exact⟨_,rfl⟩
     |bad e j=>exact⟨_,rfl⟩
   ·split
    ·exact⟨_,rfl⟩
    ·rename_i hs
     have hlt:=GG hs;split
     ·exact⟨_,rfl⟩
     ·obtain⟨r,hr⟩:=is (i+1) (d+1) (by omega);rw[hr];cases r with
      |ok x tq=>exact⟨_,rfl⟩
      |bad e j=>exact⟨_,rfl⟩
theorem UW (L:List Tok):∀f:Nat,(∀b i d r,Ax L f b i d=some r→Ax L (f+1) b i d=some r)∧(∀b x j d r,ED L f b x j d=some r→ED L (f+1) b x j d=some r)∧(∀i d r,BX L f i d=some r→BX L (f+1) i d=some r):=by
 intro f
 induction f with
 |zero=>exact⟨fun b i d r h=>by simp[Ax]at h,fun b x j d r h=>by simp[ED]at h,fun i d r h=>by simp[BX]at h⟩
 |succ f ih=>
  obtain⟨ic,il,is⟩:=ih;refine⟨fun b i d r h=>?_,fun b x j d r h=>?_,fun i d r h=>?_⟩
  ·rw[Ax]at h⊢;split at h
   ·rename_i hb;rw[if_pos hb];exact is _ _ _ h
   ·rename_i hb;rw[if_neg hb]
    split at h
    ·rename_i hc;rw[ic _ _ _ _ hc];exact il _ _ _ _ _ h
    ·rename_i hc;rw[ic _ _ _ _ hc];exact h
    ·cases h
  ·rw[ED]at h⊢;split at h
   ·rename_i hb;rw[if_pos hb];exact h
   ·rename_i hb;rw[if_neg hb]
    split at h
    ·rename_i hc;rw[ic _ _ _ _ hc]
     simp only;split at h
     ·rename_i hq;rw[if_pos hq];exact h
     ·rename_i hq;rw[if_neg hq];exact il _ _ _ _ _ h
    ·rename_i hc;rw[ic _ _ _ _ hc];exact h
    ·cases h
  ·rw[BX]at h⊢;split at h
   ·rename_i ho;rw[if_pos ho]
    split at h
    ·rename_i hd;rw[if_pos hd];exact h
    ·rename_i hd;rw[if_neg hd]
     split at h
     ·rename_i hc;rw[ic _ _ _ _ hc];exact h
     ·rename_i hc;rw[ic _ _ _ _ hc];exact h
     ·cases h
   ·rename_i ho;rw[if_neg ho]
    split at h
    ·rename_i hs;rw[if_pos hs];exact h
    ·rename_i hs;rw[if_neg hs]
     split at h
     ·rename_i hd;rw[if_pos hd];exact h
     ·rename_i hd;rw[if_neg hd]
      split at h
      ·rename_i hc;rw[is _ _ _ hc];exact h
      ·rename_i hc;rw[is _ _ _ hc];exact h
      ·cases h
theorem Lr {L:List Tok} {f g b i d:Nat} {r:Res} (hfg:f≤g) (h:Ax L f b i d=some r):Ax L g b i d=some r:=by
 induction g with
 |zero=>
  obtain rfl:f=0:=(by omega)
  exact h
 |succ g ih=>
  by_cases e:f=g+1
  ·subst e;exact h
  ·exact(UW L g).1 _ _ _ _ (ih (by omega))
theorem Vo {L:List Tok} {f g b i d:Nat} {r q:Res} (h:Ax L f b i d=some r) (h2:Ax L g b i d=some q):r=q:=by
 have h3:=Lr (Nat.le_max_left f g) h;have h4:=Lr (Nat.le_max_right f g) h2;rw[h3]at h4;exact Option.some.inj h4
def F9 (L:List Tok) (i:Nat):Res:=(Ax L (20*(L.length-i)+12) 1 i 0).getD (.bad 0 0)
theorem Ju (L:List Tok) (i:Nat):Ax L (20*(L.length-i)+12) 1 i 0=some (F9 L i):=by
 obtain⟨r,hr⟩:=(YL L (20*(L.length-i)+12)).1 1 i 0 (by omega) (by omega) (by omega);unfold F9;rw[hr];rfl
theorem YM {L:List Tok} {f i:Nat} {r:Res} (h:Ax L f 1 i 0=some r):F9 L i=r:=Vo (Ju L i) h
theorem KU (L:List Tok) (i:Nat):O8 L i (F9 L i):=(Fg L _).1 _ _ _ _ (by omega) (by omega) (Ju L i)
structure Parsed where
 nodes:List Nod
 tq:Int
 err:Int
 pl:Int
deriving DecidableEq
def EH (L:List Tok) (i:Int):Parsed:=if i<0 then⟨[],0,1,0⟩else match F9 L i.toNat with
 |.bad e j=>⟨[],0,e,AT L j⟩
 |.ok x tq=>if 12<x.deep then⟨[],0,7,AT L i⟩else if 40<x.size then⟨[],0,2,AT L i⟩else⟨x.flat,tq,0,0⟩
end Go.Proofs.YthfkpalfopdmhaaGreatDoor
namespace Go.Proofs.YthfkpalfopdmhaaGreatDoor
def CN (a:Nod):Bool:=decide (0≤a.pl)&&decide (a.pl≤4000)&&(if a.op=1 then decide (0≤a.n)&&decide (a.n≤4294967296)&&a.name.isEmpty else if a.op=2 then decide (a.n=0)&&nameB a.name else decide (a.n=0)&&a.name.isEmpty)
def BZ (L:List Nod):Bool:=match F8 L with
 |some x=>decide (L.length≤40)&&L.all CN&&decide (x.deep≤12)
 |none=>false
theorem Jw {L:List Nod} (h:BZ L=true):∃x,F8 L=some x∧x.ok∧L=x.flat∧L.length≤40∧L.all CN=true∧x.deep≤12:=by
 unfold BZ at h;cases hw:F8 L with
 |none=>rw[hw]at h;cases h
 |some x=>
  rw[hw]at h;simp only[Bool.and_eq_true,decide_eq_true_eq]at h;obtain⟨h1,h2⟩:=Lq hw;exact⟨x,rfl,h1,h2,h.1.1,h.1.2,h.2⟩
theorem PH {x:Ex} (h:x.ok):BZ x.flat=(decide (x.size≤40)&&x.flat.all CN&&decide (x.deep≤12)):=by
 unfold BZ;rw[Ic h,B7]
def Ex.kids:Ex→List Ex
 |.leaf _=>[]
 |.un _ x=>[x]
 |.bin _ x y=>[x,y]
theorem LF (x:Ex):x.flat=x.top::x.kids.flatMap Ex.flat:=by cases x<;>simp[Ex.flat,Ex.top,Ex.kids]
def C7 (l:List Ex):Nat:=(l.map Ex.size).sum
def MR (l:List Ex):Nat:=l.foldl (fun m y=>max m (y.deep+1)) 1
theorem YR (x:Ex):x.size=1+C7 x.kids:=by cases x<;>simp[Ex.size,C7,Ex.kids]<;>omega
theorem YS (x:Ex):x.deep=MR x.kids:=by
 cases x with
 |leaf a=>rfl
 |un a x=>simp[Ex.deep,MR,Ex.kids]
 |bin a x y=>simp[Ex.deep,MR,Ex.kids]
theorem XX {x:Ex} (h:x.ok):(∀y∈x.kids,y.ok)∧BG x.top.op=some x.kids.length:=by
 cases x with
 |leaf a=>exact⟨fun y hy=>by simp[Ex.kids]at hy,h⟩
 |un a x=>exact⟨fun y hy=>by simp[Ex.kids]at hy;subst hy;exact h.2,h.1⟩
 |bin a x y=>exact⟨fun z hz=>by simp[Ex.kids]at hz;rcases hz with rfl|rfl;exact h.2.1;exact h.2.2,h.1⟩
theorem Vr (l:List Ex) (y:Ex):MR (l++[y])=max (MR l) (y.deep+1):=by simp[MR]
theorem Q7 (l m:List Ex):C7 (l++m)=C7 l+C7 m:=by simp[C7]
theorem PI (y:Ex) (m:List Ex):C7 (y::m)=y.size+C7 m:=by simp[C7]
theorem YT (l:List Ex):(l.flatMap Ex.flat).length=C7 l:=by
 induction l with
 |nil=>rfl
 |cons y l ih=>rw[List.flatMap_cons,List.length_append,ih,B7,PI]
theorem UX {x y:Ex} {d r:List Ex} (h:x.kids=d++y::r):x.flat.drop (1+C7 d)=y.flat++r.flatMap Ex.flat:=by
 rw[LF,h,Nat.add_comm,List.drop_succ_cons,List.flatMap_append,List.flatMap_cons,←YT,List.drop_left]
theorem XY {x y:Ex} {d r:List Ex} (h:x.kids=d++y::r) (ho:y.ok):MP x.flat ((1+C7 d:Nat):Int)=((1+C7 d+y.size:Nat):Int):=by
 rw[US,UX h,Q4 y _ ho]
theorem MS {x y:Ex} {d r:List Ex} (h:x.kids=d++y::r):(x.flat.take (1+C7 d+y.size)).drop (1+C7 d)=y.flat:=by
 rw[List.drop_take,UX h,show 1+C7 d+y.size-(1+C7 d)=y.flat.length from by rw[B7];omega,List.take_left]
end Go.Proofs.YthfkpalfopdmhaaGreatDoor
namespace Go.Proofs.YthfkpalfopdmhaaGreatDoor
open Go Go.RowKit
def QFD (R:World→Prop):Exit→Act→World→Prop
 |.normal,_,W=>R W
 |.ret,_,_=>False
 |.exit _,_,_=>False
 |.goto _,_,_=>False
 |.panic _,_,_=>False
 |.outgrown,_,_=>False
def VP {σ α:Type} (F:Fence) (n:Nat) (P:Program) (gf:Nat) (lb:Array Value) (encs:α→Array Value) (I:σ→World→Prop) (Mv:σ→World→σ→World→Prop) (Nx:σ→α→σ→Prop) (s0 s1:σ):Prop:=
 ∀(l:Nat) (J:σ→World→Prop) (W:World),(∀s W1,J s W1→I s W1)→(∀s W1 s' W2,J s W1→Mv s W1 s' W2→J s' W2)→
  (∀s x s' W1,J s W1→Nx s x s'→YieldAt F (n-1) P l (encs x) W1 (fun e W2=>e=.returned (.bool true)∧J s' W2))→J s0 W→
  CallsIn F n P gf (#[.func (.yield l) #[] #[]]++lb) W (fun e W2=>(∃v,e=.returned v)∧J s1 W2)
theorem XH {σ α:Type} {F:Fence} {n:Nat} {P:Program} {g:Operand} {ps:Array Tmp} {assign body:Code} {Q:Exit→Act→World→Prop} {a:Act} {w:World}
  (hro:F.round=none) (h1:1≤n) {gf:Nat} {lb:Array Value} (hg:a.eval g=.func (.func gf) #[] lb) (hF:F.fn gf) (eg:∀args w,(callFunc gf args).run P w=.ok (.enter gf args) w)
  {encs:α→Array Value} (hps:∀x,(encs x).size=ps.size) {I:σ→World→Prop} {Mv:σ→World→σ→World→Prop} {Nx:σ→α→σ→Prop} {s0 s1:σ}
  (hseq:VP F (n-1) P gf lb encs I Mv Nx s0 s1)
  (hMvI:∀s W s' W',I s W→Mv s W s' W'→I s' W')
  (hMvO:∀s W s' W',I s W→Mv s W s' W'→∀(k:Nat) (o:Obj),W.heap[k]?=some o→o.isCells=false→W'.heap[k]?=some o)
  (hI:∀s W (k:Nat) (o o':Obj),I s W→w.heap.size≤k→W.heap[k]?=some o→o.isCells=false→I s (W.putObj k o'))
  (h0:∀o1 o2:Obj,I s0 ((w.alloc o1).alloc o2)) (a₁:α→Act)
  (hassign:∀(l:Nat) (x:α) (W:World) (K:Act→World→Prop),K (a₁ x) W→
   assign.wpIn (F.inRound l) (n-1-1) P (Exit.then K (fun _ _ _=>False)) {tmps:=(ps.zip (encs x)).foldl (fun t (p,v)=>t.setIfInBounds p v) a.tmps,defers:=[]} W)
  (hbody:∀(l:Nat) (s:σ) (x:α) (s':σ) (W:World),I s W→Nx s x s'→body.wpIn (F.inRound l) (n-1-1) P (QFD (fun W'=>KeepsOthers W W'∧I s' W')) (a₁ x) W)
  (hdone:∀(D:Nat) (W:World),w.heap.size≤D→I s1 W→W.heap[D]?=some (.deferred (some []))→Q .normal {a with defers:={target:=.collected D,args:=#[]}::a.defers} W):
  (Code.rangeFunc g ps assign body).wpIn F n P Q a w:=by
 refine wpIn_rangeFunc ?_;intro fn hfn;rw[hro];obtain⟨rec,hrec⟩:∃rec:LoopState→Option Code→Loop,rec=fun st pe=>{state:=st,pending:=pe,fn,tmps:=a.tmps,params:=ps,assign,body,defers:=w.heap.size}:=⟨_,rfl⟩
 obtain⟨X,hX⟩:∃X,(w.alloc (.deferred (some []))).alloc (.loop (rec .ready none))=X:=⟨_,rfl⟩
 obtain⟨D,hD⟩:∃D,w.heap.size=D:=⟨_,rfl⟩
 have xr:X.heap[D+1]?=some (.loop (rec .ready none)):=by
  have:=World.alloc_heap_new (w.alloc (.deferred (some []))) (.loop (rec .ready none));rw[World.size_alloc,hD,hX]at this;exact this
 have xd:X.heap[D]?=some (.deferred (some [])):=by
  rw[←hX,←hD];exact(Below.heap_alloc _ _ _ (by simp)).trans (World.alloc_heap_new w _)
 let J:σ→World→Prop:=fun s W=>I s W∧W.heap[D+1]?=some (.loop (rec .ready none))∧W.heap[D]?=some (.deferred (some []))
 have hJ0:J s0 X:=⟨hX▸h0 _ _,xr,xd⟩
 have round:∀s x s' W1,J s W1→Nx s x s'→YieldAt F (n-1-1) P (D+1) (encs x) W1 (fun e W2=>e=.returned (.bool true)∧J s' W2):=by
  rintro s x s' W ⟨hi,hl,hd⟩ hx;have hlt:D+1<W.heap.size:=(Array.getElem?_eq_some_iff.1 hl).1;have hy:=run_yield (P:=P) (args:=encs x) hl (by rw[hrec];exact hps x);rw[hrec]at hy;refine⟨fn,_,assign,body,hy,roundIn_of_wpIn hfn (hassign _ x W _ ⟨_,run_beginRound hl (by rw[hrec]),?_⟩)⟩;have b1:(W.putObj (D+1) (.loop {rec .ready none with state:=.busy})).heap[D+1]?=some (.loop {rec .ready none with state:=.busy}):=World.putObj_heap_same hlt;have b2:(W.putObj (D+1) (.loop {rec .ready none with state:=.busy})).heap[D]?=some (.deferred (some [])):=(World.putObj_heap_other (by omega)).trans hd
  refine wpIn_mono (hbody _ s x s' _ (hI s W _ _ _ hi (by omega) hl rfl) hx) ?_;intro e a3 W3 hp;cases e with
  |normal=>
   obtain⟨k3,i3⟩:=hp;have l3:=k3.same _ _ b1 rfl;have d3:=k3.same _ _ b2 rfl;have hend:=run_endRound (P:=P) none l3;have hlt3:=(Array.getElem?_eq_some_iff.1 l3).1;refine⟨_,_,hend,rfl,hI s' W3 _ _ _ i3 (by omega) l3 rfl,?_,(World.putObj_heap_other (by omega)).trans d3⟩;rw[World.putObj_heap_same hlt3,hrec];rfl
  |ret=>exact hp.elim
  |exit id=>exact hp.elim
  |goto t=>exact hp.elim
  |panic ch=>exact hp.elim
  |outgrown=>exact hp.elim
 refine⟨D+1,[{target:=.collected D,args:=#[]}],X,{target:=.fn (.func gf) lb,args:=#[.func (.yield (D+1)) #[] #[]]},X,gf,#[.func (.yield (D+1)) #[] #[]]++lb,X,?_,?_,?_,?_,fun _=>h1,?_⟩
 ·rw[←hX,hrec,←hD];exact run_enterLoop_outer _ _ _ _ _
 ·simp only[resolve,hg];simp[go_sem]
 ·intro f' hf';simp[Target.leads]at hf';subst hf';exact hF
 ·simp[invoke,go_sem,eg]
 ·refine(hseq (D+1) J X (fun s W h=>h.1) (fun s W1 s' W2 h hm=>⟨hMvI _ _ _ _ h.1 hm,hMvO _ _ _ _ h.1 hm _ _ h.2.1 rfl,hMvO _ _ _ _ h.1 hm _ _ h.2.2 rfl⟩) round hJ0).mono ?_;rintro e W2 ⟨⟨v,rfl⟩,hi,hl,hd⟩;refine⟨none,_,(by have:=run_endLoop (P:=P) hl (by rw[hrec];simp);rw[hrec]at this;exact this),?_⟩;exact hdone D _ (by omega) (hI s1 W2 _ _ _ hi (by omega) hl rfl) ((World.putObj_heap_other (by omega)).trans hd)
end Go.Proofs.YthfkpalfopdmhaaGreatDoor
