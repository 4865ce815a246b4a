/- Texts of the walk, packed. -/
import Derived.Test.YthfkpalfopdmhaaGreatDoorProg
import Derived.WalkKit
import Derived.WalkSpells
import Derived.WalkLawsBesides
import Derived.KernelRfl
import Derived.Lib.Hide
import Derived.Test.YthfkpalfopdmhaaGreatDoorW00
namespace Go.Proofs.YthfkpalfopdmhaaGreatDoor
def digB (c:UInt8):Bool:=decide (48<=c.toNat)&&decide (c.toNat<=57)
def Ew (c:UInt8):Bool:=(decide (97<=c.toNat)&&decide (c.toNat<=122))||decide (c.toNat=95)
def wrdB (c:UInt8):Bool:=Ew c||digB c
def Hn (c:UInt8):Bool:=!decide (c.toNat=10)
def Eu (c:UInt8):Bool:=decide (c.toNat=32)||decide (c.toNat=9)||decide (c.toNat=10)||decide (c.toNat=13)
def I2 (n:Nat) (l:List UInt8):Nat:=l.foldl (fun n c=>n*10+(c.toNat-48)) n
def CY (l:List UInt8):Nat:=I2 0 l
structure Tok where
 kind:Int
 text:List UInt8
 n:Int
 pl:Nat
deriving DecidableEq
def Bg:List (List UInt8):=[[61,61],[33,61],[60,61],[38,38],[124,124],[40],[41],[123],[125],[59],[44],[61],[60],[33],[43],[45],[42],[47],[37]]
def Ey (l:List UInt8):Option (List UInt8):=Bg.find? (fun t=>t.isPrefixOf l)
structure Cut where
 err:Int
 kind:Int
 text:List UInt8
 n:Int
deriving DecidableEq
def Cut.no (e:Int):Cut:=⟨e,0,[],0⟩
def DY (l:List UInt8):Cut:=if 16<(l.takeWhile wrdB).length then .no 2 else⟨0,1,l.takeWhile wrdB,0⟩
def FY (l:List UInt8):Cut:=if 4294967296<CY (l.takeWhile digB)then .no 4 else⟨0,2,l.takeWhile digB,CY (l.takeWhile digB)⟩
def Dm (l:List UInt8):Cut:=match Ey l with
 |some t=>⟨0,3,t,0⟩
 |none=>.no 3
def AZ (l:List UInt8):Cut:=match l with
 |[]=>.no 3
 |c::_=>if Ew c=true then DY l else if digB c=true then FY l else Dm l
structure Found where
 toks:List Tok
 err:Int
 pl:Nat
deriving DecidableEq
def Found.fail (e:Int) (a:Nat):Found:=⟨[],e,a⟩
def Found.fine (l:List Tok):Found:=⟨l,0,0⟩
def Found.pre (l:List Tok) (f:Found):Found:=if f.err=0 then⟨l++f.toks,0,0⟩else⟨[],f.err,f.pl⟩
def D8 (l:List UInt8):Bool:=[47,47].isPrefixOf l
def Ia:Nat->List UInt8->Nat->Found
 |0,_,_=>.fine []
 |_+1,[],_=>.fine []
 |f+1,c::r,a=>
  if Eu c=true then Ia f r (a+1)
  else if D8 (c::r)=true then Ia f ((c::r).dropWhile Hn) (a+((c::r).takeWhile Hn).length)
  else if(AZ (c::r)).err=0 then
   (Ia f ((c::r).drop (AZ (c::r)).text.length) (a+(AZ (c::r)).text.length)).pre [⟨(AZ (c::r)).kind,(AZ (c::r)).text,(AZ (c::r)).n,a⟩]
  else .fail (AZ (c::r)).err a
def AV (l:List UInt8) (a:Nat):Found:=Ia l.length l a
theorem FO (p:UInt8->Bool) (l:List UInt8):l.takeWhile p++l.dropWhile p=l:=List.takeWhile_append_dropWhile
theorem Om {l t:List UInt8} (h:Ey l=some t):t∈Bg/\t <+: l:=by
 unfold Ey at h;exact⟨List.mem_of_find?_eq_some h,by simpa using List.find?_some h⟩
theorem Uw {t:List UInt8} (h:t∈Bg):1<=t.length/\t.length<=2:=by
 revert t;decide
theorem Ez {c:UInt8} (r:List UInt8) (h:Ew c=true):AZ (c::r)=DY (c::r):=by simp[AZ,h]
theorem GZ {c:UInt8} (r:List UInt8) (h:Ew c=false) (h2:digB c=true):AZ (c::r)=FY (c::r):=by simp[AZ,h,h2]
theorem EO {c:UInt8} (r:List UInt8) (h:Ew c=false) (h2:digB c=false):AZ (c::r)=Dm (c::r):=by simp[AZ,h,h2]
theorem Ri {c:UInt8} (r:List UInt8) (h:Ew c=true):(c::r).takeWhile wrdB=c::r.takeWhile wrdB:=by
 rw[List.takeWhile_cons,if_pos (by unfold wrdB;rw[h];rfl)]
theorem Ux {c:UInt8} (r:List UInt8) (h:digB c=true):(c::r).takeWhile digB=c::r.takeWhile digB:=by
 rw[List.takeWhile_cons,if_pos h]
theorem TL {l:List UInt8} (h:(DY l).err=0):(l.takeWhile wrdB).length<=16/\DY l=⟨0,1,l.takeWhile wrdB,0⟩:=by
 unfold DY at *;split at h
 ·exact absurd h (by decide)
 ·rename_i hl
  rw[if_neg hl];exact⟨by omega,rfl⟩
theorem WI {l:List UInt8} (h:(FY l).err=0):CY (l.takeWhile digB)<=4294967296/\FY l=⟨0,2,l.takeWhile digB,CY (l.takeWhile digB)⟩:=by
 unfold FY at *;split at h
 ·exact absurd h (by decide)
 ·rename_i hl
  rw[if_neg hl];exact⟨by omega,rfl⟩
theorem TM {l:List UInt8} (h:(Dm l).err=0):∃t,Ey l=some t/\Dm l=⟨0,3,t,0⟩:=by
 unfold Dm at *;cases hs:Ey l with
 |none=>rw[hs]at h;exact absurd h (by decide)
 |some t=>exact⟨t,rfl,rfl⟩
theorem N7 {l:List UInt8} (h:(AZ l).err=0):(AZ l).text <+: l/\1<=(AZ l).text.length:=by
 cases l with
 |nil=>exact absurd h (by decide)
 |cons c r=>
  cases h1:Ew c with
  |true=>
   rw[Ez r h1]at *;rw[(TL h).2];exact⟨⟨_,FO wrdB (c::r)⟩,by show 1<=((c::r).takeWhile wrdB).length;rw[Ri r h1];simp⟩
  |false=>
   cases h2:digB c with
   |true=>
    rw[GZ r h1 h2]at *;rw[(WI h).2];exact⟨⟨_,FO digB (c::r)⟩,by show 1<=((c::r).takeWhile digB).length;rw[Ux r h2];simp⟩
   |false=>
    rw[EO r h1 h2]at *;obtain⟨t,hs,e⟩:=TM h;rw[e];have:=Om hs;exact⟨this.2,(Uw this.1).1⟩
theorem PL {c:UInt8} {r:List UInt8} (h:D8 (c::r)=true):1<=((c::r).takeWhile Hn).length:=by
 have:c=47:=by
  unfold D8 at h;simp[List.isPrefixOf]at h;exact h.1.symm
 subst this;rw[List.takeWhile_cons,if_pos (by decide)];simp
theorem Lt (p:UInt8->Bool) (l:List UInt8):(l.dropWhile p).length+(l.takeWhile p).length=l.length:=by
 have:=congrArg List.length (FO p l);rw[List.length_append]at this;omega
theorem dropWhile_drop (p:UInt8->Bool) (l:List UInt8):l.dropWhile p=l.drop (l.takeWhile p).length:=by
 have h:=FO p l;generalize l.takeWhile p=a at *;generalize l.dropWhile p=b at *;subst h;rw[List.drop_append];simp
theorem Pe:∀(f g:Nat) (l:List UInt8) (a:Nat),l.length<=f->l.length<=g->Ia f l a=Ia g l a:=by
 intro f
 induction f with
 |zero=>
  intro g l a hf _;have:l=[]:=List.length_eq_zero_iff.1 (by omega);subst this;cases g<;>rfl
 |succ f ih=>
  intro g l a hf hg;cases l with
  |nil=>cases g<;>rfl
  |cons c r=>
   cases g with
   |zero=>simp at hg
   |succ g=>
    simp only[List.length_cons]at hf hg;unfold Ia;by_cases h1:Eu c=true
    ·rw[if_pos h1,if_pos h1];exact ih g r _ (by omega) (by omega)
    ·rw[if_neg h1,if_neg h1];by_cases h2:D8 (c::r)=true
     ·rw[if_pos h2,if_pos h2];have e1:=Lt Hn (c::r);have e2:=PL h2;simp only[List.length_cons]at e1;exact ih g _ _ (by omega) (by omega)
     ·rw[if_neg h2,if_neg h2];by_cases h3:(AZ (c::r)).err=0
      ·rw[if_pos h3,if_pos h3];have e:=N7 h3;have e1:=e.1.length_le;have e2:=e.2;have e3:((c::r).drop (AZ (c::r)).text.length).length<=f:=by rw[List.length_drop];simp only[List.length_cons]at *;omega
       have e4:((c::r).drop (AZ (c::r)).text.length).length<=g:=by rw[List.length_drop];simp only[List.length_cons]at *;omega
       rw[ih g _ _ e3 e4]
      ·rw[if_neg h3,if_neg h3]
theorem LS (a:Nat):AV [] a=.fine []:=rfl
theorem Bj {c:UInt8} (r:List UInt8) (a:Nat) (h:Eu c=true):AV (c::r) a=AV r (a+1):=by
 show Ia (r.length+1) (c::r) a=_;unfold Ia;rw[if_pos h];rfl
theorem IK {c:UInt8} (r:List UInt8) (a:Nat) (h:Eu c=false) (h2:D8 (c::r)=true):
  AV (c::r) a=AV ((c::r).drop ((c::r).takeWhile Hn).length) (a+((c::r).takeWhile Hn).length):=by
 show Ia (r.length+1) (c::r) a=_;unfold Ia;rw[if_neg (by rw[h];simp),if_pos h2];have e1:=Lt Hn (c::r);have e2:=PL h2;simp only[List.length_cons]at e1;rw[<-dropWhile_drop];exact Pe _ _ _ _ (by omega) (by omega)
theorem GA {c:UInt8} (r:List UInt8) (a:Nat) (h:Eu c=false) (h2:D8 (c::r)=false) (h3:(AZ (c::r)).err=0):
  AV (c::r) a=(AV ((c::r).drop (AZ (c::r)).text.length) (a+(AZ (c::r)).text.length)).pre [⟨(AZ (c::r)).kind,(AZ (c::r)).text,(AZ (c::r)).n,a⟩]:=by
 show Ia (r.length+1) (c::r) a=_;unfold Ia;rw[if_neg (by rw[h];simp),if_neg (by rw[h2];simp),if_pos h3];have e:=N7 h3;have e1:=e.1.length_le;have e2:=e.2;congr 1;exact Pe _ _ _ _ (by rw[List.length_drop];simp only[List.length_cons]at *;omega) (by omega)
theorem IL {c:UInt8} (r:List UInt8) (a:Nat) (h:Eu c=false) (h2:D8 (c::r)=false) (h3:(AZ (c::r)).err≠0):
  AV (c::r) a=.fail (AZ (c::r)).err a:=by
 show Ia (r.length+1) (c::r) a=_;unfold Ia;rw[if_neg (by rw[h];simp),if_neg (by rw[h2];simp),if_neg h3]
theorem pre_nil (f:Found) (h:f.err=0->f.pl=0) (h2:f.err≠0->f.toks=[]):f.pre []=f:=by
 unfold Found.pre;obtain⟨t,e,p⟩:=f;by_cases he:e=0
 ·simp only at h he⊢;rw[if_pos he,h he,he];rfl
 ·simp only at h2 he⊢;rw[if_neg he,h2 he]
theorem TN (l m:List Tok) (f:Found):(f.pre m).pre l=f.pre (l++m):=by
 unfold Found.pre;by_cases h:f.err=0
 ·simp[h]
 ·simp[h]
theorem Kt (l m:List Tok):(Found.fine m).pre l=.fine (l++m):=by simp[Found.pre,Found.fine]
theorem QBG (l:List Tok) (e:Int) (a:Nat) (h:e≠0):(Found.fail e a).pre l=.fail e a:=by simp[Found.pre,Found.fail,h]
theorem Uy (l:List UInt8):(AZ l).err=0\/((AZ l).err≠0):=by
 by_cases h:(AZ l).err=0
 ·exact .inl h
 ·exact .inr h
theorem Me {P:List UInt8->Nat->Prop} (h0:∀a,P [] a) (h1:∀c r a,Eu c=true->P r (a+1)->P (c::r) a)
  (h2:∀c r a,Eu c=false->D8 (c::r)=true->P ((c::r).drop ((c::r).takeWhile Hn).length) (a+((c::r).takeWhile Hn).length)->P (c::r) a)
  (h3:∀c r a,Eu c=false->D8 (c::r)=false->(AZ (c::r)).err=0->P ((c::r).drop (AZ (c::r)).text.length) (a+(AZ (c::r)).text.length)->P (c::r) a)
  (h4:∀c r a,Eu c=false->D8 (c::r)=false->(AZ (c::r)).err≠0->P (c::r) a):∀l a,P l a:=by
 have key:∀n (l:List UInt8) a,l.length<=n->P l a:=by
  intro n
  induction n with
  |zero=>
   intro l a hl;have:l=[]:=List.length_eq_zero_iff.1 (by omega);subst this;exact h0 a
  |succ n ih=>
   intro l a hl;cases l with
   |nil=>exact h0 a
   |cons c r=>
    simp only[List.length_cons]at hl;cases hb:Eu c with
    |true=>exact h1 c r a hb (ih _ _ (by omega))
    |false=>
     cases hr:D8 (c::r)with
     |true=>
      have e2:=PL hr;exact h2 c r a hb hr (ih _ _ (by rw[List.length_drop];simp only[List.length_cons];omega))
     |false=>
      rcases Uy (c::r)with he|he
      ·have e:=(N7 he).2;exact h3 c r a hb hr he (ih _ _ (by rw[List.length_drop];simp only[List.length_cons];omega))
      ·exact h4 c r a hb hr he
 exact fun l a=>key l.length l a (Nat.le_refl _)
theorem Ge (l:List UInt8) (a:Nat):((AV l a).err=0->(AV l a).pl=0)/\((AV l a).err≠0->(AV l a).toks=[]):=by
 revert l a
 refine Me (fun a=>?_) (fun c r a h ih=>?_) (fun c r a h h2 ih=>?_) (fun c r a h h2 h3 ih=>?_) (fun c r a h h2 h3=>?_)
 ·rw[LS];exact⟨fun _=>rfl,fun h=>absurd rfl h⟩
 ·rw[Bj r a h];exact ih
 ·rw[IK r a h h2];exact ih
 ·rw[GA r a h h2 h3];unfold Found.pre;by_cases he:(AV ((c::r).drop (AZ (c::r)).text.length) (a+(AZ (c::r)).text.length)).err=0
  ·rw[if_pos he];exact⟨fun _=>rfl,fun h=>absurd rfl h⟩
  ·rw[if_neg he];exact⟨fun h=>absurd h he,fun _=>rfl⟩
 ·rw[IL r a h h2 h3];exact⟨fun h=>absurd h h3,fun _=>rfl⟩
theorem IM (p:UInt8->Bool) (d:UInt8) (hd:p d=false) (m x:List UInt8):(m++d::x).takeWhile p=m.takeWhile p:=by
 induction m with
 |nil=>simp[hd]
 |cons c m ih=>
  rw[List.cons_append,List.takeWhile_cons,List.takeWhile_cons,ih]
theorem On (p:UInt8->Bool) (l:List UInt8):(l.takeWhile p).takeWhile p=l.takeWhile p:=by
 induction l with
 |nil=>rfl
 |cons c l ih=>
  rw[List.takeWhile_cons];cases h:p c with
  |true=>simp only[if_true];rw[List.takeWhile_cons,if_pos h,ih]
  |false=>rfl
theorem Uz {a b d:UInt8} (h:b≠d) (c:UInt8) (r x:List UInt8):[a,b].isPrefixOf ((c::r)++d::x)=[a,b].isPrefixOf (c::r):=by
 cases r with
 |nil=>simp[List.isPrefixOf,h]
 |cons e r=>simp[List.isPrefixOf]
def Gap (d:UInt8):Prop:=d=10\/d=32
theorem QDo {d:UInt8} (h:Gap d):Eu d=true/\wrdB d=false/\digB d=false/\Ew d=false:=by
 rcases h with rfl|rfl<;>decide
theorem QBH {d:UInt8} (hd:Gap d) (c:UInt8) (r x:List UInt8):Ey ((c::r)++d::x)=Ey (c::r):=by
 unfold Ey Bg;have h2:∀a b:UInt8,b≠d->[a,b].isPrefixOf ((c::r)++d::x)=[a,b].isPrefixOf (c::r):=fun a b h=>Uz h c r x
 have h1:∀a:UInt8,[a].isPrefixOf ((c::r)++d::x)=[a].isPrefixOf (c::r):=fun a=>by simp[List.isPrefixOf]
 have n61:(61:UInt8)≠d:=by rcases hd with rfl|rfl<;>decide
 have n38:(38:UInt8)≠d:=by rcases hd with rfl|rfl<;>decide
 have n124:(124:UInt8)≠d:=by rcases hd with rfl|rfl<;>decide
 simp only[List.find?_cons,List.find?_nil,h1,h2 _ _ n61,h2 _ _ n38,h2 _ _ n124]
theorem QDp {d:UInt8} (hd:Gap d) (c:UInt8) (r x:List UInt8):D8 ((c::r)++d::x)=D8 (c::r):=by
 unfold D8;exact Uz (by rcases hd with rfl|rfl<;>decide) c r x
theorem QDq {d:UInt8} (hd:Gap d) (c:UInt8) (r x:List UInt8):AZ ((c::r)++d::x)=AZ (c::r):=by
 obtain⟨_,g2,g3,_⟩:=QDo hd;cases h1:Ew c with
 |true=>
  rw[Ez r h1];show AZ (c::(r++d::x))=_;rw[Ez _ h1];unfold DY;rw[show c::(r++d::x)=(c::r)++d::x from rfl,IM wrdB d g2]
 |false=>
  cases h2:digB c with
  |true=>
   rw[GZ r h1 h2];show AZ (c::(r++d::x))=_;rw[GZ _ h1 h2];unfold FY;rw[show c::(r++d::x)=(c::r)++d::x from rfl,IM digB d g3]
  |false=>
   rw[EO r h1 h2];show AZ (c::(r++d::x))=_;rw[EO _ h1 h2];unfold Dm;rw[show c::(r++d::x)=(c::r)++d::x from rfl,QBH hd]
def Tok.move (d:Nat) (t:Tok):Tok:={t with pl:=t.pl+d}
def Found.move (d:Nat) (f:Found):Found:=if f.err=0 then⟨f.toks.map (Tok.move d),0,0⟩else⟨[],f.err,f.pl+d⟩
theorem N8 (d:Nat) (l:List UInt8) (a:Nat):AV l (a+d)=(AV l a).move d:=by
 revert l a
 refine Me (fun a=>?_) (fun c r a h ih=>?_) (fun c r a h h2 ih=>?_) (fun c r a h h2 h3 ih=>?_) (fun c r a h h2 h3=>?_)
 ·rfl
 ·rw[Bj r a h,Bj r _ h,<-ih,show a+d+1=a+1+d from by omega]
 ·rw[IK r a h h2,IK r _ h h2,<-ih,show a+d+((c::r).takeWhile Hn).length=a+((c::r).takeWhile Hn).length+d from by omega]
 ·rw[GA r a h h2 h3,GA r _ h h2 h3,show a+d+(AZ (c::r)).text.length=a+(AZ (c::r)).text.length+d from by omega,ih];generalize AV ((c::r).drop (AZ (c::r)).text.length) (a+(AZ (c::r)).text.length)=f;by_cases he:f.err=0
  ·simp[Found.pre,Found.move,he,Tok.move]
  ·simp[Found.pre,Found.move,he]
 ·rw[IL r a h h2 h3,IL r _ h h2 h3];simp[Found.fail,Found.move,h3]
theorem U0 (p y:List UInt8) (a:Nat) (h:p.all Eu=true):AV (p++y) a=AV y (a+p.length):=by
 induction p generalizing a with
 |nil=>rfl
 |cons c p ih=>
  simp at h;rw[List.cons_append,Bj _ a h.1,ih _ (by simpa using h.2),List.length_cons,show a+1+p.length=a+(p.length+1)from by omega]
def Good (t:Tok):Prop:=AZ t.text=⟨0,t.kind,t.text,t.n⟩/\t.text≠[]
theorem Yv:∀t∈Bg,Ey t=some t:=by decide
theorem WJ:∀t∈Bg,(match t with|[]=>false|c::_=>!Ew c&&!digB c&&!Eu c)=true/\D8 t=false:=by decide
theorem QBI {m:List UInt8} (h:(AZ m).err=0):AZ (AZ m).text=AZ m:=by
 cases m with
 |nil=>exact absurd h (by decide)
 |cons c r=>
  cases h1:Ew c with
  |true=>
   rw[Ez r h1]at *;obtain⟨hl,e⟩:=TL h;rw[e];simp only;have e1:=Ri r h1;rw[e1,Ez _ h1];have e2:(c::r.takeWhile wrdB).takeWhile wrdB=c::r.takeWhile wrdB:=by rw[<-e1];exact On _ _
   unfold DY;rw[e2,if_neg (by rw[<-e1];omega)]
  |false=>
   cases h2:digB c with
   |true=>
    rw[GZ r h1 h2]at *;obtain⟨hl,e⟩:=WI h;rw[e];simp only;have e1:=Ux r h2;rw[e1,GZ _ h1 h2];have e2:(c::r.takeWhile digB).takeWhile digB=c::r.takeWhile digB:=by rw[<-e1];exact On _ _
    unfold FY;rw[e2,if_neg (by rw[<-e1];omega)]
   |false=>
    rw[EO r h1 h2]at *;obtain⟨t,hs,e⟩:=TM h;rw[e];simp only;have hm:=(Om hs).1;have hh:=(WJ t hm).1;cases t with
    |nil=>exact absurd hh (by decide)
    |cons d q=>
     simp at hh;rw[EO q hh.1.1 hh.1.2];unfold Dm;rw[Yv _ hm]
theorem QDr {m:List UInt8} {a:Nat} (h:(AZ m).err=0):Good ⟨(AZ m).kind,(AZ m).text,(AZ m).n,a⟩:=by
 refine⟨?_,fun e=>?_⟩
 ·have e:=QBI h;simp only;rw[e];generalize AZ m=q at *;obtain⟨e,k,t,n⟩:=q;simp only at h;subst h;rfl
 ·have:=(N7 h).2;simp only at e;rw[e]at this;simp at this
theorem Yw (l:List UInt8) (a:Nat):∀t∈(AV l a).toks,Good t:=by
 revert l a
 refine Me (fun a=>?_) (fun c r a h ih=>?_) (fun c r a h h2 ih=>?_) (fun c r a h h2 h3 ih=>?_) (fun c r a h h2 h3=>?_)
 ·intro t ht;simp[LS,Found.fine]at ht
 ·rw[Bj r a h];exact ih
 ·rw[IK r a h h2];exact ih
 ·rw[GA r a h h2 h3];intro t ht;unfold Found.pre at ht;split at ht
  ·simp at ht;rcases ht with rfl|ht
   ·exact QDr h3
   ·exact ih t ht
  ·simp at ht
 ·intro t ht;simp[IL r a h h2 h3,Found.fail]at ht
theorem Ku (n:Nat) (l m:List UInt8):I2 n (l++m)=I2 (I2 n l) m:=by
 simp[I2,List.foldl_append]
theorem Rj (l:List UInt8) (c:UInt8):CY (l++[c])=CY l*10+(c.toNat-48):=by
 unfold CY;rw[Ku];rfl
def keptTab:List (List UInt8):=[[108,105,110,101],[118,111,108],[108,111,99,107],[116,104,114,101,97,100],[114,101,103],[108,111,97,100],[115,116,111,114,101],[99,97,115],[102,108,117,115,104],[111,112,116],[115,102,101,110,99,101],[109,102,101,110,99,101],[116,97,107,101],[103,105,118,101],[105,102],[101,108,115,101],[108,111,111,112],[98,114,101,97,107],[99,104,101,99,107],[114,101,99,111,118,101,114],[97,108,119,97,121,115]]
def JM (l:List UInt8):Bool:=keptTab.any (fun t=>t==l)
def nameB (l:List UInt8):Bool:=!l.isEmpty&&decide (l.length<=16)&&l.head?.any Ew&&l.all wrdB&&!JM l
theorem Pg (p:UInt8->Bool) (l:List UInt8):(l.takeWhile p==l)=l.all p:=by
 induction l with
 |nil=>rfl
 |cons c l ih=>
  rw[List.takeWhile_cons];cases h:p c with
  |true=>simp only[if_true,List.all_cons,h,Bool.true_and];rw[<-ih];simp
  |false=>simp[h]
def isB (L:List Tok) (i:Int) (s:List UInt8):Bool:=decide (0<=i)&&(L[i.toNat]?).any (fun t=>(t.kind==1||t.kind==3)&&t.text==s)
def AN (L:List Tok) (i:Int):Int:=match(if 0<=i then L[i.toNat]? else none)with
 |some t=>t.pl
 |none=>match L.getLast? with
  |some t=>t.pl+t.text.length
  |none=>0
def Gf (L:List Tok):Prop:=∀t∈L,t.pl<=100000/\t.text.length<=100000
theorem QBJ {L:List Tok} {k:Nat} {a:Tok} (ha:L[k]?=some a):AN L k=a.pl:=by
 unfold AN;rw[if_pos (by omega),Int.toNat_natCast,ha]
theorem Yx {L:List Tok} {i:Int} {a:Tok} (hi:¬(0<=i/\i<L.length)) (ha:L[L.length-1]?=some a):AN L i=a.pl+a.text.length:=by
 have e:(if 0<=i then L[i.toNat]? else none)=none:=by
  by_cases h:0<=i
  ·rw[if_pos h];exact List.getElem?_eq_none (by omega)
  ·rw[if_neg h]
 unfold AN;rw[e,List.getLast?_eq_getElem?,ha]
theorem Yy (i:Int):AN [] i=0:=by
 unfold AN;have e:(if 0<=i then([]:List Tok)[i.toNat]? else none)=none:=by simp
 rw[e];rfl
def M3 (l:List UInt8):Bool:=!l.isEmpty&&decide (l.length<=16)&&l.head?.any Ew&&l.all wrdB
theorem Yz:∀t∈keptTab,M3 t=true:=by decide
theorem QBK {l:List UInt8} (h:JM l=true):l∈keptTab:=by
 unfold JM at h;rw[List.any_eq_true]at h;obtain⟨t,ht,e⟩:=h;simp at e;subst e;exact ht
theorem TO (l:List UInt8):(nameB l||JM l)=M3 l:=by
 cases hk:JM l with
 |true=>rw[Bool.or_true,Yz l (QBK hk)]
 |false=>unfold nameB M3;rw[hk];simp
theorem RU (l:List UInt8):(nameB l&&JM l)=false:=by
 unfold nameB;cases JM l<;>simp
def JO (l:List UInt8):Nat->List Tok->Prop
 |_,[]=>True
 |e,t::L=>e<=t.pl/\1<=t.text.length/\t.pl+t.text.length<=l.length/\(l.drop t.pl).take t.text.length=t.text/\(t.kind=1\/t.kind=2\/t.kind=3)/\(t.n≠0->t.kind=2)/\0<=t.n/\t.n<=4294967296/\JO l (t.pl+t.text.length) L
theorem Oo {l:List UInt8}:∀{L:List Tok} {e e':Nat},e'<=e->JO l e L->JO l e' L
 |[],_,_,_,_=>trivial
 |_::_,_,_,h,hp=>⟨Nat.le_trans h hp.1,hp.2⟩
theorem Y0 {m:List UInt8} (h:(AZ m).err=0):((AZ m).kind=1\/(AZ m).kind=2\/(AZ m).kind=3)/\((AZ m).n≠0->(AZ m).kind=2)/\0<=(AZ m).n/\(AZ m).n<=4294967296:=by
 cases m with
 |nil=>exact absurd h (by decide)
 |cons c r=>
  cases h1:Ew c with
  |true=>
   rw[Ez r h1]at *;rw[(TL h).2];exact⟨.inl rfl,fun h=>absurd rfl h,Int.le_refl _,by simp⟩
  |false=>
   cases h2:digB c with
   |true=>
    rw[GZ r h1 h2]at *;obtain⟨h3,h4⟩:=WI h;rw[h4];exact⟨.inr (.inl rfl),fun _=>rfl,Int.natCast_nonneg _,by show((CY _:Nat):Int)<=_;omega⟩
   |false=>
    rw[EO r h1 h2]at *;obtain⟨t',_,e⟩:=TM h;rw[e];exact⟨.inr (.inr rfl),fun h=>absurd rfl h,Int.le_refl _,by simp⟩
theorem U3 (l:List UInt8):∀(m:List UInt8) (a:Nat),a<=l.length->l.drop a=m->JO l a (AV m a).toks:=by
 refine Me (fun a _ _=>?_) (fun c r a h ih ha hd=>?_) (fun c r a h h2 ih ha hd=>?_) (fun c r a h h2 h3 ih ha hd=>?_) (fun c r a h h2 h3 _ _=>?_)
 ·rw[LS];trivial
 ·rw[Bj r a h];have hl:=congrArg List.length hd;simp only[List.length_drop,List.length_cons]at hl;exact Oo (Nat.le_succ a) (ih (by omega) (by rw[<-List.drop_drop,hd];rfl))
 ·rw[IK r a h h2];have hl:=congrArg List.length hd;have h4:((c::r).takeWhile Hn).length<=(c::r).length:=(List.takeWhile_sublist _).length_le;simp only[List.length_drop]at hl;exact Oo (Nat.le_add_right a _) (ih (by omega) (by rw[<-List.drop_drop,hd]))
 ·rw[GA r a h h2 h3];have hl:=congrArg List.length hd;simp only[List.length_drop]at hl;have e:=N7 h3;have e1:=e.1.length_le;have e3:=Y0 h3;have ih':=ih (by omega) (by rw[<-List.drop_drop,hd]);unfold Found.pre;by_cases he:(AV ((c::r).drop (AZ (c::r)).text.length) (a+(AZ (c::r)).text.length)).err=0
  ·rw[if_pos he];refine⟨Nat.le_refl _,e.2,by simp only;omega,?_,e3.1,e3.2.1,e3.2.2.1,e3.2.2.2,ih'⟩;simp only;rw[hd];exact(List.prefix_iff_eq_take.1 e.1).symm
  ·rw[if_neg he];trivial
 ·rw[IL r a h h2 h3];trivial
end Go.Proofs.YthfkpalfopdmhaaGreatDoor
namespace Go.Proofs.YthfkpalfopdmhaaGreatDoor
open Go.RowKit
theorem AH {a b:Bool} (h:a=b):Ending.returned (.bool a)=.returned (.bool b):=by rw[h]
def Lu (b:Bool) (w:World) (e:Ending) (w':World):Prop:=e=.returned (.bool b)/\w=w'
theorem E0 (c:UInt8) (w:World):Calls Tryz.prog 129 #[.int .u8 c.toNat] w (Lu (Ew c) w):=by
 go_enter Tryz.func129,Tryz.ntmps129
 go_wp2
 all_goals
  go_ret;refine⟨AH ?_,rfl⟩;rw[Bool.eq_iff_iff];simp[Ew];omega
theorem JP (c:UInt8) (w:World):Calls Tryz.prog 131 #[.int .u8 c.toNat] w (Lu (digB c) w):=by
 go_enter Tryz.func131,Tryz.ntmps131
 go_wp2
 all_goals
  go_ret;refine⟨AH ?_,rfl⟩;rw[Bool.eq_iff_iff];simp[digB];omega
theorem QDs {c:UInt8} (h:Ew c=true):wrdB c=true:=by unfold wrdB;rw[h];rfl
theorem QDt {c:UInt8} (h:Ew c=false):wrdB c=digB c:=by unfold wrdB;rw[h];rfl
theorem Ph (c:UInt8) (w:World):Calls Tryz.prog 151 #[.int .u8 c.toNat] w (Lu (wrdB c) w):=by
 cases h:Ew c with
 |true=>
  have HW:=AA (QDs h);have H:=AA h;clear h;go_enter Tryz.func151,Tryz.ntmps151;go_wp2_with fail
  refine(E0 c _).mono ?_;rw[H.out];rintro e w' ⟨rfl,rfl⟩;go_wp2_with fail
  go_ret;exact⟨AH HW.out.symm,rfl⟩
 |false=>
  have HW:=AA (QDt h);have H:=AA h;clear h;go_enter Tryz.func151,Tryz.ntmps151;go_wp2_with fail
  refine(E0 c _).mono ?_;rw[H.out];rintro e w' ⟨rfl,rfl⟩;go_wp2_with fail
  refine(JP c _).mono ?_;rintro e w' ⟨rfl,rfl⟩;go_wp2_with fail
  go_ret;exact⟨AH HW.out.symm,rfl⟩
theorem E7 (s:ByteArray):s.data.toList.length=s.size:=rfl
theorem take_snoc (s:ByteArray) (k:Nat) (h:k<s.size):s.data.toList.take (k+1)=s.data.toList.take k++[s[k]]:=by
 rw[List.take_succ_eq_append_getElem (by simpa using h)];rfl
theorem Pj (s:ByteArray) (k:Nat) (h:¬k<s.size):s.data.toList.take k=s.data.toList:=
 List.take_of_length_le (by simp;show s.size<=k;omega)
theorem drop_at (s:ByteArray) (k:Nat) (h:k<s.size):s.data.toList.drop k=s[k]::s.data.toList.drop (k+1):=by
 rw[List.drop_eq_getElem_cons (by rw[E7];exact h)];rfl
theorem LU {a b:ByteArray} (h:a.data.toList=b.data.toList):a=b:=by
 cases a with|mk a=>cases b with|mk b=>cases a;cases b;simp at h;subst h;rfl
theorem FP (s:ByteArray) (k:Nat):s.extract 0 k=⟨(s.data.toList.take k).toArray⟩:=by
 apply LU;simp[ByteArray.data_extract,List.extract_eq_take_drop]
theorem extract_drop (s:ByteArray) (k:Nat):(s.extract k s.size).data.toList=s.data.toList.drop k:=by
 rw[ByteArray.data_extract,Array.toList_extract,List.extract_eq_take_drop,List.take_of_length_le (by simp)]
theorem L1 (p:UInt8->Bool) (s:ByteArray) (k:Nat) (h:k<s.size) (ha:(s.data.toList.take k).all p=true) (hp:p s[k]=false):s.data.toList.takeWhile p=s.data.toList.take k:=by
 have e:s.data.toList=s.data.toList.take k++s[k]::s.data.toList.drop (k+1):=by rw[<-drop_at s k h,List.take_append_drop]
 generalize s.data.toList.take k=a at *;generalize s.data.toList.drop (k+1)=b at *;rw[e,List.takeWhile_append_of_pos (by simpa using ha),List.takeWhile_cons,if_neg (by rw[hp];simp)];simp
theorem OA (p:UInt8->Bool) (s:ByteArray) (k:Nat) (h:¬k<s.size) (ha:(s.data.toList.take k).all p=true):s.data.toList.takeWhile p=s.data.toList.take k:=by
 rw[Pj s k h]at *;generalize s.data.toList=l at *;have:=List.takeWhile_append_of_pos (l₁:=l) (l₂:=[]) (p:=p) (by simpa using ha);simpa using this
theorem Pm (p:UInt8->Bool) (s:ByteArray) (k:Nat) (h:k<s.size) (ha:(s.data.toList.take k).all p=true) (hp:p s[k]=true):(s.data.toList.take (k+1)).all p=true:=by
 rw[take_snoc s k h,List.all_append,ha];simp[hp]
def TP (l:List UInt8) (w:World) (e:Ending) (w':World):Prop:=e=.returned (.string ⟨l.toArray⟩)/\w=w'
theorem IN {l l':List UInt8} {w:World} {e:Ending} {u:ByteArray} (he:e=.returned (.string u)) (h:u=⟨l'.toArray⟩) (h2:l=l'):TP l w e w:=by
 subst h;subst h2;exact⟨he,rfl⟩
set_option maxHeartbeats 1000000 in
theorem Jx (s:ByteArray) (w:World) (hs:s.size<=100000):Calls Tryz.prog 73 #[.string s,.func (.func 151) #[] #[]] w (TP (s.data.toList.takeWhile wrdB) w):=by
 go_enter Tryz.func73,Tryz.ntmps73;go_wp2_with fail
 go_loop [5] (fun i=>∃k:Nat,k<=s.size/\i=.int .i64 k/\(s.data.toList.take k).all wrdB=true) (fun i=>s.size-(intOf i).toNat)
 case atStart=>exact⟨0,Nat.zero_le _,rfl,rfl⟩
 case round=>
  obtain⟨k,hk,rfl,ha⟩:=hrel;have HA:=AA ha;clear ha;by_cases hlt:k<s.size
  ·cases hp:wrdB (s[k]'hlt)with
   |true=>
    have HS:=AA (Pm wrdB s k hlt HA.out hp);have HP:=AA hp;clear hp;go_wp2_with fail
    refine(Ph (s[k]'hlt) _).mono ?_
    rw[HP.out];rintro e w' ⟨rfl,rfl⟩;go_wp2_with fail
    go_round;case rel=>exact⟨k+1,by omega,by go_num,HS.out⟩
    case measure=>simp[intOf];omega
   |false=>
    have HS:=AA (L1 wrdB s k hlt HA.out hp);have HP:=AA hp;clear hp;go_wp2_with fail
    refine(Ph (s[k]'hlt) _).mono ?_
    rw[HP.out];rintro e w' ⟨rfl,rfl⟩;go_wp2_with fail
    go_ret;exact IN rfl (FP s k) HS.out
  ·have HS:=AA (OA wrdB s k hlt HA.out);go_wp2_with fail
   go_ret;exact IN rfl (FP s k) HS.out
end Go.Proofs.YthfkpalfopdmhaaGreatDoor
