/- Texts of the walk, packed. -/
import Derived.Test.YthfkpalfopdmhaaGreatDoorProg
import Derived.WalkKit
import Derived.WalkSpells
import Derived.WalkLawsBesides
import Derived.KernelRfl
import Derived.Lib.Hide
import Derived.Test.YthfkpalfopdmhaaGreatDoorX00
namespace Go.Proofs.YthfkpalfopdmhaaGreatDoor
def digB (c:UInt8):Bool:=decide (48≤c.toNat)&&decide (c.toNat≤57)
def Et (c:UInt8):Bool:=(decide (97≤c.toNat)&&decide (c.toNat≤122))||decide (c.toNat=95)
def wrdB (c:UInt8):Bool:=Et c||digB c
def IF (c:UInt8):Bool:=!decide (c.toNat=10)
def Es (c:UInt8):Bool:=decide (c.toNat=32)||decide (c.toNat=9)||decide (c.toNat=10)||decide (c.toNat=13)
def I3 (n:Nat) (l:List UInt8):Nat:=l.foldl (fun n c=>n*10+(c.toNat-48)) n
def Cd (l:List UInt8):Nat:=I3 0 l
structure Tok where
 kind:Int
 text:List UInt8
 n:Int
 pl:Nat
deriving DecidableEq
def Bn:List (List UInt8):=[[61,61],[33,61],[60,61],[38,38],[124,124],[40],[41],[123],[125],[59],[44],[61],[60],[33],[43],[45],[42],[47],[37]]
def Eu (l:List UInt8):Option (List UInt8):=Bn.find? (fun t=>t.isPrefixOf l)
structure Cut where
 err:Int
 kind:Int
 text:List UInt8
 n:Int
deriving DecidableEq
def Cut.no (e:Int):Cut:=⟨e,0,[],0⟩
def Di (l:List UInt8):Cut:=if 16<(l.takeWhile wrdB).length then .no 2 else⟨0,1,l.takeWhile wrdB,0⟩
def FZ (l:List UInt8):Cut:=if 4294967296<Cd (l.takeWhile digB)then .no 4 else⟨0,2,l.takeWhile digB,Cd (l.takeWhile digB)⟩
def Du (l:List UInt8):Cut:=match Eu l with
 |some t=>⟨0,3,t,0⟩
 |none=>.no 3
def Ag (l:List UInt8):Cut:=match l with
 |[]=>.no 3
 |c::_=>if Et c=true then Di l else if digB c=true then FZ l else Du l
structure Found where
 toks:List Tok
 err:Int
 pl:Nat
deriving DecidableEq
def Found.fail (e:Int) (a:Nat):Found:=⟨[],e,a⟩
def Found.fine (l:List Tok):Found:=⟨l,0,0⟩
def Found.pre (l:List Tok) (f:Found):Found:=if f.err=0 then⟨l++f.toks,0,0⟩else⟨[],f.err,f.pl⟩
def EF (l:List UInt8):Bool:=[47,47].isPrefixOf l
def Ib:Nat→List UInt8→Nat→Found
 |0,_,_=>.fine []
 |_+1,[],_=>.fine []
 |f+1,c::r,a=>
  if Es c=true then Ib f r (a+1)
  else if EF (c::r)=true then Ib f ((c::r).dropWhile IF) (a+((c::r).takeWhile IF).length)
  else if(Ag (c::r)).err=0 then
   (Ib f ((c::r).drop (Ag (c::r)).text.length) (a+(Ag (c::r)).text.length)).pre [⟨(Ag (c::r)).kind,(Ag (c::r)).text,(Ag (c::r)).n,a⟩]
  else .fail (Ag (c::r)).err a
def AS (l:List UInt8) (a:Nat):Found:=Ib l.length l a
theorem FK (p:UInt8→Bool) (l:List UInt8):l.takeWhile p++l.dropWhile p=l:=List.takeWhile_append_dropWhile
theorem OL {l t:List UInt8} (h:Eu l=some t):t∈Bn∧t <+: l:=by
 unfold Eu at h;exact⟨List.mem_of_find?_eq_some h,by simpa using List.find?_some h⟩
theorem UH {t:List UInt8} (h:t∈Bn):1≤t.length∧t.length≤2:=by
 revert t;decide
theorem Ew {c:UInt8} (r:List UInt8) (h:Et c=true):Ag (c::r)=Di (c::r):=by simp[Ag,h]
theorem Gi {c:UInt8} (r:List UInt8) (h:Et c=false) (h2:digB c=true):Ag (c::r)=FZ (c::r):=by simp[Ag,h,h2]
theorem EV {c:UInt8} (r:List UInt8) (h:Et c=false) (h2:digB c=false):Ag (c::r)=Du (c::r):=by simp[Ag,h,h2]
theorem Qx {c:UInt8} (r:List UInt8) (h:Et c=true):(c::r).takeWhile wrdB=c::r.takeWhile wrdB:=by
 rw[List.takeWhile_cons,if_pos (by unfold wrdB;rw[h];rfl)]
theorem UI {c:UInt8} (r:List UInt8) (h:digB c=true):(c::r).takeWhile digB=c::r.takeWhile digB:=by
 rw[List.takeWhile_cons,if_pos h]
theorem SO {l:List UInt8} (h:(Di l).err=0):(l.takeWhile wrdB).length≤16∧Di l=⟨0,1,l.takeWhile wrdB,0⟩:=by
 unfold Di at *;split at h
 ·exact absurd h (by decide)
 ·rename_i hl
  rw[if_neg hl];exact⟨by omega,rfl⟩
theorem Vd {l:List UInt8} (h:(FZ l).err=0):Cd (l.takeWhile digB)≤4294967296∧FZ l=⟨0,2,l.takeWhile digB,Cd (l.takeWhile digB)⟩:=by
 unfold FZ at *;split at h
 ·exact absurd h (by decide)
 ·rename_i hl
  rw[if_neg hl];exact⟨by omega,rfl⟩
theorem SQ {l:List UInt8} (h:(Du l).err=0):∃t,Eu l=some t∧Du l=⟨0,3,t,0⟩:=by
 unfold Du at *;cases hs:Eu l with
 |none=>rw[hs]at h;exact absurd h (by decide)
 |some t=>exact⟨t,rfl,rfl⟩
theorem NZ {l:List UInt8} (h:(Ag l).err=0):(Ag l).text <+: l∧1≤(Ag l).text.length:=by
 cases l with
 |nil=>exact absurd h (by decide)
 |cons c r=>
  cases h1:Et c with
  |true=>
   rw[Ew r h1]at *;rw[(SO h).2];exact⟨⟨_,FK wrdB (c::r)⟩,by show 1≤((c::r).takeWhile wrdB).length;rw[Qx r h1];simp⟩
  |false=>
   cases h2:digB c with
   |true=>
    rw[Gi r h1 h2]at *;rw[(Vd h).2];exact⟨⟨_,FK digB (c::r)⟩,by show 1≤((c::r).takeWhile digB).length;rw[UI r h2];simp⟩
   |false=>
    rw[EV r h1 h2]at *;obtain⟨t,hs,e⟩:=SQ h;rw[e];have:=OL hs;exact⟨this.2,(UH this.1).1⟩
theorem Of {c:UInt8} {r:List UInt8} (h:EF (c::r)=true):1≤((c::r).takeWhile IF).length:=by
 have:c=47:=by
  unfold EF at h;simp[List.isPrefixOf]at h;exact h.1.symm
 subst this;rw[List.takeWhile_cons,if_pos (by decide)];simp
theorem Lh (p:UInt8→Bool) (l:List UInt8):(l.dropWhile p).length+(l.takeWhile p).length=l.length:=by
 have:=congrArg List.length (FK p l);rw[List.length_append]at this;omega
theorem dropWhile_drop (p:UInt8→Bool) (l:List UInt8):l.dropWhile p=l.drop (l.takeWhile p).length:=by
 have h:=FK p l;generalize l.takeWhile p=a at *;generalize l.dropWhile p=b at *;subst h;rw[List.drop_append];simp
theorem Oz:∀(f g:Nat) (l:List UInt8) (a:Nat),l.length≤f→l.length≤g→Ib f l a=Ib g l a:=by
 intro f
 induction f with
 |zero=>
  intro g l a hf _;have:l=[]:=List.length_eq_zero_iff.1 (by omega);subst this;cases g<;>rfl
 |succ f ih=>
  intro g l a hf hg;cases l with
  |nil=>cases g<;>rfl
  |cons c r=>
   cases g with
   |zero=>simp at hg
   |succ g=>
    simp only[List.length_cons]at hf hg;unfold Ib;by_cases h1:Es c=true
    ·rw[if_pos h1,if_pos h1];exact ih g r _ (by omega) (by omega)
    ·rw[if_neg h1,if_neg h1];by_cases h2:EF (c::r)=true
     ·rw[if_pos h2,if_pos h2];have e1:=Lh IF (c::r);have e2:=Of h2;simp only[List.length_cons]at e1;exact ih g _ _ (by omega) (by omega)
     ·rw[if_neg h2,if_neg h2];by_cases h3:(Ag (c::r)).err=0
      ·rw[if_pos h3,if_pos h3];have e:=NZ h3;have e1:=e.1.length_le;have e2:=e.2;have e3:((c::r).drop (Ag (c::r)).text.length).length≤f:=by rw[List.length_drop];simp only[List.length_cons]at *;omega
       have e4:((c::r).drop (Ag (c::r)).text.length).length≤g:=by rw[List.length_drop];simp only[List.length_cons]at *;omega
       rw[ih g _ _ e3 e4]
      ·rw[if_neg h3,if_neg h3]
theorem JM (a:Nat):AS [] a=.fine []:=rfl
theorem AU {c:UInt8} (r:List UInt8) (a:Nat) (h:Es c=true):AS (c::r) a=AS r (a+1):=by
 show Ib (r.length+1) (c::r) a=_;unfold Ib;rw[if_pos h];rfl
theorem JO {c:UInt8} (r:List UInt8) (a:Nat) (h:Es c=false) (h2:EF (c::r)=true):
  AS (c::r) a=AS ((c::r).drop ((c::r).takeWhile IF).length) (a+((c::r).takeWhile IF).length):=by
 show Ib (r.length+1) (c::r) a=_;unfold Ib;rw[if_neg (by rw[h];simp),if_pos h2];have e1:=Lh IF (c::r);have e2:=Of h2;simp only[List.length_cons]at e1;rw[←dropWhile_drop];exact Oz _ _ _ _ (by omega) (by omega)
theorem Gj {c:UInt8} (r:List UInt8) (a:Nat) (h:Es c=false) (h2:EF (c::r)=false) (h3:(Ag (c::r)).err=0):
  AS (c::r) a=(AS ((c::r).drop (Ag (c::r)).text.length) (a+(Ag (c::r)).text.length)).pre [⟨(Ag (c::r)).kind,(Ag (c::r)).text,(Ag (c::r)).n,a⟩]:=by
 show Ib (r.length+1) (c::r) a=_;unfold Ib;rw[if_neg (by rw[h];simp),if_neg (by rw[h2];simp),if_pos h3];have e:=NZ h3;have e1:=e.1.length_le;have e2:=e.2;congr 1;exact Oz _ _ _ _ (by rw[List.length_drop];simp only[List.length_cons]at *;omega) (by omega)
theorem JP {c:UInt8} (r:List UInt8) (a:Nat) (h:Es c=false) (h2:EF (c::r)=false) (h3:(Ag (c::r)).err≠0):
  AS (c::r) a=.fail (Ag (c::r)).err a:=by
 show Ib (r.length+1) (c::r) a=_;unfold Ib;rw[if_neg (by rw[h];simp),if_neg (by rw[h2];simp),if_neg h3]
theorem pre_nil (f:Found) (h:f.err=0→f.pl=0) (h2:f.err≠0→f.toks=[]):f.pre []=f:=by
 unfold Found.pre;obtain⟨t,e,p⟩:=f;by_cases he:e=0
 ·simp only at h he⊢;rw[if_pos he,h he,he];rfl
 ·simp only at h2 he⊢;rw[if_neg he,h2 he]
theorem SR (l m:List Tok) (f:Found):(f.pre m).pre l=f.pre (l++m):=by
 unfold Found.pre;by_cases h:f.err=0
 ·simp[h]
 ·simp[h]
theorem O0 (l m:List Tok):(Found.fine m).pre l=.fine (l++m):=by simp[Found.pre,Found.fine]
theorem QAK (l:List Tok) (e:Int) (a:Nat) (h:e≠0):(Found.fail e a).pre l=.fail e a:=by simp[Found.pre,Found.fail,h]
theorem UJ (l:List UInt8):(Ag l).err=0∨((Ag l).err≠0):=by
 by_cases h:(Ag l).err=0
 ·exact .inl h
 ·exact .inr h
theorem ML {P:List UInt8→Nat→Prop} (h0:∀a,P [] a) (h1:∀c r a,Es c=true→P r (a+1)→P (c::r) a)
  (h2:∀c r a,Es c=false→EF (c::r)=true→P ((c::r).drop ((c::r).takeWhile IF).length) (a+((c::r).takeWhile IF).length)→P (c::r) a)
  (h3:∀c r a,Es c=false→EF (c::r)=false→(Ag (c::r)).err=0→P ((c::r).drop (Ag (c::r)).text.length) (a+(Ag (c::r)).text.length)→P (c::r) a)
  (h4:∀c r a,Es c=false→EF (c::r)=false→(Ag (c::r)).err≠0→P (c::r) a):∀l a,P l a:=by
 have key:∀n (l:List UInt8) a,l.length≤n→P l a:=by
  intro n
  induction n with
  |zero=>
   intro l a hl;have:l=[]:=List.length_eq_zero_iff.1 (by omega);subst this;exact h0 a
  |succ n ih=>
   intro l a hl;cases l with
   |nil=>exact h0 a
   |cons c r=>
    simp only[List.length_cons]at hl;cases hb:Es c with
    |true=>exact h1 c r a hb (ih _ _ (by omega))
    |false=>
     cases hr:EF (c::r)with
     |true=>
      have e2:=Of hr;exact h2 c r a hb hr (ih _ _ (by rw[List.length_drop];simp only[List.length_cons];omega))
     |false=>
      rcases UJ (c::r)with he|he
      ·have e:=(NZ he).2;exact h3 c r a hb hr he (ih _ _ (by rw[List.length_drop];simp only[List.length_cons];omega))
      ·exact h4 c r a hb hr he
 exact fun l a=>key l.length l a (Nat.le_refl _)
theorem Gk (l:List UInt8) (a:Nat):((AS l a).err=0→(AS l a).pl=0)∧((AS l a).err≠0→(AS l a).toks=[]):=by
 revert l a
 refine ML (fun a=>?_) (fun c r a h ih=>?_) (fun c r a h h2 ih=>?_) (fun c r a h h2 h3 ih=>?_) (fun c r a h h2 h3=>?_)
 ·rw[JM];exact⟨fun _=>rfl,fun h=>absurd rfl h⟩
 ·rw[AU r a h];exact ih
 ·rw[JO r a h h2];exact ih
 ·rw[Gj r a h h2 h3];unfold Found.pre;by_cases he:(AS ((c::r).drop (Ag (c::r)).text.length) (a+(Ag (c::r)).text.length)).err=0
  ·rw[if_pos he];exact⟨fun _=>rfl,fun h=>absurd rfl h⟩
  ·rw[if_neg he];exact⟨fun h=>absurd h he,fun _=>rfl⟩
 ·rw[JP r a h h2 h3];exact⟨fun h=>absurd h h3,fun _=>rfl⟩
theorem IM (p:UInt8→Bool) (d:UInt8) (hd:p d=false) (m x:List UInt8):(m++d::x).takeWhile p=m.takeWhile p:=by
 induction m with
 |nil=>simp[hd]
 |cons c m ih=>
  rw[List.cons_append,List.takeWhile_cons,List.takeWhile_cons,ih]
theorem OM (p:UInt8→Bool) (l:List UInt8):(l.takeWhile p).takeWhile p=l.takeWhile p:=by
 induction l with
 |nil=>rfl
 |cons c l ih=>
  rw[List.takeWhile_cons];cases h:p c with
  |true=>simp only[if_true];rw[List.takeWhile_cons,if_pos h,ih]
  |false=>rfl
theorem UK {a b d:UInt8} (h:b≠d) (c:UInt8) (r x:List UInt8):[a,b].isPrefixOf ((c::r)++d::x)=[a,b].isPrefixOf (c::r):=by
 cases r with
 |nil=>simp[List.isPrefixOf,h]
 |cons e r=>simp[List.isPrefixOf]
def Gap (d:UInt8):Prop:=d=10∨d=32
theorem QCj {d:UInt8} (h:Gap d):Es d=true∧wrdB d=false∧digB d=false∧Et d=false:=by
 rcases h with rfl|rfl<;>decide
theorem QAL {d:UInt8} (hd:Gap d) (c:UInt8) (r x:List UInt8):Eu ((c::r)++d::x)=Eu (c::r):=by
 unfold Eu Bn;have h2:∀a b:UInt8,b≠d→[a,b].isPrefixOf ((c::r)++d::x)=[a,b].isPrefixOf (c::r):=fun a b h=>UK h c r x
 have h1:∀a:UInt8,[a].isPrefixOf ((c::r)++d::x)=[a].isPrefixOf (c::r):=fun a=>by simp[List.isPrefixOf]
 have n61:(61:UInt8)≠d:=by rcases hd with rfl|rfl<;>decide
 have n38:(38:UInt8)≠d:=by rcases hd with rfl|rfl<;>decide
 have n124:(124:UInt8)≠d:=by rcases hd with rfl|rfl<;>decide
 simp only[List.find?_cons,List.find?_nil,h1,h2 _ _ n61,h2 _ _ n38,h2 _ _ n124]
theorem QCk {d:UInt8} (hd:Gap d) (c:UInt8) (r x:List UInt8):EF ((c::r)++d::x)=EF (c::r):=by
 unfold EF;exact UK (by rcases hd with rfl|rfl<;>decide) c r x
theorem QCl {d:UInt8} (hd:Gap d) (c:UInt8) (r x:List UInt8):Ag ((c::r)++d::x)=Ag (c::r):=by
 obtain⟨_,g2,g3,_⟩:=QCj hd;cases h1:Et c with
 |true=>
  rw[Ew r h1];show Ag (c::(r++d::x))=_;rw[Ew _ h1];unfold Di;rw[show c::(r++d::x)=(c::r)++d::x from rfl,IM wrdB d g2]
 |false=>
  cases h2:digB c with
  |true=>
   rw[Gi r h1 h2];show Ag (c::(r++d::x))=_;rw[Gi _ h1 h2];unfold FZ;rw[show c::(r++d::x)=(c::r)++d::x from rfl,IM digB d g3]
  |false=>
   rw[EV r h1 h2];show Ag (c::(r++d::x))=_;rw[EV _ h1 h2];unfold Du;rw[show c::(r++d::x)=(c::r)++d::x from rfl,QAL hd]
def Tok.move (d:Nat) (t:Tok):Tok:={t with pl:=t.pl+d}
def Found.move (d:Nat) (f:Found):Found:=if f.err=0 then⟨f.toks.map (Tok.move d),0,0⟩else⟨[],f.err,f.pl+d⟩
theorem UL (p y:List UInt8) (a:Nat) (h:p.all Es=true):AS (p++y) a=AS y (a+p.length):=by
 induction p generalizing a with
 |nil=>rfl
 |cons c p ih=>
  simp at h;rw[List.cons_append,AU _ a h.1,ih _ (by simpa using h.2),List.length_cons,show a+1+p.length=a+(p.length+1)from by omega]
def Good (t:Tok):Prop:=Ag t.text=⟨0,t.kind,t.text,t.n⟩∧t.text≠[]
theorem YA:∀t∈Bn,Eu t=some t:=by decide
theorem Ve:∀t∈Bn,(match t with|[]=>false|c::_=>!Et c&&!digB c&&!Es c)=true∧EF t=false:=by decide
theorem QAM {m:List UInt8} (h:(Ag m).err=0):Ag (Ag m).text=Ag m:=by
 cases m with
 |nil=>exact absurd h (by decide)
 |cons c r=>
  cases h1:Et c with
  |true=>
   rw[Ew r h1]at *;obtain⟨hl,e⟩:=SO h;rw[e];simp only;have e1:=Qx r h1;rw[e1,Ew _ h1];have e2:(c::r.takeWhile wrdB).takeWhile wrdB=c::r.takeWhile wrdB:=by rw[←e1];exact OM _ _
   unfold Di;rw[e2,if_neg (by rw[←e1];omega)]
  |false=>
   cases h2:digB c with
   |true=>
    rw[Gi r h1 h2]at *;obtain⟨hl,e⟩:=Vd h;rw[e];simp only;have e1:=UI r h2;rw[e1,Gi _ h1 h2];have e2:(c::r.takeWhile digB).takeWhile digB=c::r.takeWhile digB:=by rw[←e1];exact OM _ _
    unfold FZ;rw[e2,if_neg (by rw[←e1];omega)]
   |false=>
    rw[EV r h1 h2]at *;obtain⟨t,hs,e⟩:=SQ h;rw[e];simp only;have hm:=(OL hs).1;have hh:=(Ve t hm).1;cases t with
    |nil=>exact absurd hh (by decide)
    |cons d q=>
     simp at hh;rw[EV q hh.1.1 hh.1.2];unfold Du;rw[YA _ hm]
theorem QCm {m:List UInt8} {a:Nat} (h:(Ag m).err=0):Good ⟨(Ag m).kind,(Ag m).text,(Ag m).n,a⟩:=by
 refine⟨?_,fun e=>?_⟩
 ·have e:=QAM h;simp only;rw[e];generalize Ag m=q at *;obtain⟨e,k,t,n⟩:=q;simp only at h;subst h;rfl
 ·have:=(NZ h).2;simp only at e;rw[e]at this;simp at this
theorem YB (l:List UInt8) (a:Nat):∀t∈(AS l a).toks,Good t:=by
 revert l a
 refine ML (fun a=>?_) (fun c r a h ih=>?_) (fun c r a h h2 ih=>?_) (fun c r a h h2 h3 ih=>?_) (fun c r a h h2 h3=>?_)
 ·intro t ht;simp[JM,Found.fine]at ht
 ·rw[AU r a h];exact ih
 ·rw[JO r a h h2];exact ih
 ·rw[Gj r a h h2 h3];intro t ht;unfold Found.pre at ht;split at ht
  ·simp at ht;rcases ht with rfl|ht
   ·exact QCm h3
   ·exact ih t ht
  ·simp at ht
 ·intro t ht;simp[JP r a h h2 h3,Found.fail]at ht
theorem KT (n:Nat) (l m:List UInt8):I3 n (l++m)=I3 (I3 n l) m:=by
 simp[I3,List.foldl_append]
theorem Qy (l:List UInt8) (c:UInt8):Cd (l++[c])=Cd l*10+(c.toNat-48):=by
 unfold Cd;rw[KT];rfl
def keptTab:List (List UInt8):=[[108,105,110,101],[118,111,108],[108,111,99,107],[116,104,114,101,97,100],[114,101,103],[108,111,97,100],[115,116,111,114,101],[99,97,115],[102,108,117,115,104],[111,112,116],[115,102,101,110,99,101],[109,102,101,110,99,101],[116,97,107,101],[103,105,118,101],[105,102],[101,108,115,101],[108,111,111,112],[98,114,101,97,107],[99,104,101,99,107],[114,101,99,111,118,101,114],[97,108,119,97,121,115]]
def JQ (l:List UInt8):Bool:=keptTab.any (fun t=>t==l)
def nameB (l:List UInt8):Bool:=!l.isEmpty&&decide (l.length≤16)&&l.head?.any Et&&l.all wrdB&&!JQ l
theorem O1 (p:UInt8→Bool) (l:List UInt8):(l.takeWhile p==l)=l.all p:=by
 induction l with
 |nil=>rfl
 |cons c l ih=>
  rw[List.takeWhile_cons];cases h:p c with
  |true=>simp only[if_true,List.all_cons,h,Bool.true_and];rw[←ih];simp
  |false=>simp[h]
def isB (L:List Tok) (i:Int) (s:List UInt8):Bool:=decide (0≤i)&&(L[i.toNat]?).any (fun t=>(t.kind==1||t.kind==3)&&t.text==s)
def AT (L:List Tok) (i:Int):Int:=match(if 0≤i then L[i.toNat]? else none)with
 |some t=>t.pl
 |none=>match L.getLast? with
  |some t=>t.pl+t.text.length
  |none=>0
def Gl (L:List Tok):Prop:=∀t∈L,t.pl≤100000∧t.text.length≤100000
theorem UM {L:List Tok} {k:Nat} {a:Tok} (ha:L[k]?=some a):AT L k=a.pl:=by
 unfold AT;rw[if_pos (by omega),Int.toNat_natCast,ha]
theorem Qz {L:List Tok} {i:Int} {a:Tok} (hi:¬(0≤i∧i<L.length)) (ha:L[L.length-1]?=some a):AT L i=a.pl+a.text.length:=by
 have e:(if 0≤i then L[i.toNat]? else none)=none:=by
  by_cases h:0≤i
  ·rw[if_pos h];exact List.getElem?_eq_none (by omega)
  ·rw[if_neg h]
 unfold AT;rw[e,List.getLast?_eq_getElem?,ha]
theorem Q0 (i:Int):AT [] i=0:=by
 unfold AT;have e:(if 0≤i then([]:List Tok)[i.toNat]? else none)=none:=by simp
 rw[e];rfl
def MM (l:List UInt8):Bool:=!l.isEmpty&&decide (l.length≤16)&&l.head?.any Et&&l.all wrdB
theorem YC:∀t∈keptTab,MM t=true:=by decide
theorem QAN {l:List UInt8} (h:JQ l=true):l∈keptTab:=by
 unfold JQ at h;rw[List.any_eq_true]at h;obtain⟨t,ht,e⟩:=h;simp at e;subst e;exact ht
theorem SS (l:List UInt8):(nameB l||JQ l)=MM l:=by
 cases hk:JQ l with
 |true=>rw[Bool.or_true,YC l (QAN hk)]
 |false=>unfold nameB MM;rw[hk];simp
theorem Qn (l:List UInt8):(nameB l&&JQ l)=false:=by
 unfold nameB;cases JQ l<;>simp
def JR (l:List UInt8):Nat→List Tok→Prop
 |_,[]=>True
 |e,t::L=>e≤t.pl∧1≤t.text.length∧t.pl+t.text.length≤l.length∧(l.drop t.pl).take t.text.length=t.text∧(t.kind=1∨t.kind=2∨t.kind=3)∧(t.n≠0→t.kind=2)∧0≤t.n∧t.n≤4294967296∧JR l (t.pl+t.text.length) L
theorem ON {l:List UInt8}:∀{L:List Tok} {e e':Nat},e'≤e→JR l e L→JR l e' L
 |[],_,_,_,_=>trivial
 |_::_,_,_,h,hp=>⟨Nat.le_trans h hp.1,hp.2⟩
theorem YD {m:List UInt8} (h:(Ag m).err=0):((Ag m).kind=1∨(Ag m).kind=2∨(Ag m).kind=3)∧((Ag m).n≠0→(Ag m).kind=2)∧0≤(Ag m).n∧(Ag m).n≤4294967296:=by
 cases m with
 |nil=>exact absurd h (by decide)
 |cons c r=>
  cases h1:Et c with
  |true=>
   rw[Ew r h1]at *;rw[(SO h).2];exact⟨.inl rfl,fun h=>absurd rfl h,Int.le_refl _,by simp⟩
  |false=>
   cases h2:digB c with
   |true=>
    rw[Gi r h1 h2]at *;obtain⟨h3,h4⟩:=Vd h;rw[h4];exact⟨.inr (.inl rfl),fun _=>rfl,Int.natCast_nonneg _,by show((Cd _:Nat):Int)≤_;omega⟩
   |false=>
    rw[EV r h1 h2]at *;obtain⟨t',_,e⟩:=SQ h;rw[e];exact⟨.inr (.inr rfl),fun h=>absurd rfl h,Int.le_refl _,by simp⟩
theorem UN (l:List UInt8):∀(m:List UInt8) (a:Nat),a≤l.length→l.drop a=m→JR l a (AS m a).toks:=by
 refine ML (fun a _ _=>?_) (fun c r a h ih ha hd=>?_) (fun c r a h h2 ih ha hd=>?_) (fun c r a h h2 h3 ih ha hd=>?_) (fun c r a h h2 h3 _ _=>?_)
 ·rw[JM];trivial
 ·rw[AU r a h];have hl:=congrArg List.length hd;simp only[List.length_drop,List.length_cons]at hl;exact ON (Nat.le_succ a) (ih (by omega) (by rw[←List.drop_drop,hd];rfl))
 ·rw[JO r a h h2];have hl:=congrArg List.length hd;have h4:((c::r).takeWhile IF).length≤(c::r).length:=(List.takeWhile_sublist _).length_le;simp only[List.length_drop]at hl;exact ON (Nat.le_add_right a _) (ih (by omega) (by rw[←List.drop_drop,hd]))
 ·rw[Gj r a h h2 h3];have hl:=congrArg List.length hd;simp only[List.length_drop]at hl;have e:=NZ h3;have e1:=e.1.length_le;have e3:=YD h3;have ih':=ih (by omega) (by rw[←List.drop_drop,hd]);unfold Found.pre;by_cases he:(AS ((c::r).drop (Ag (c::r)).text.length) (a+(Ag (c::r)).text.length)).err=0
  ·rw[if_pos he];refine⟨Nat.le_refl _,e.2,by simp only;omega,?_,e3.1,e3.2.1,e3.2.2.1,e3.2.2.2,ih'⟩;simp only;rw[hd];exact(List.prefix_iff_eq_take.1 e.1).symm
  ·rw[if_neg he];trivial
 ·rw[JP r a h h2 h3];trivial
end Go.Proofs.YthfkpalfopdmhaaGreatDoor
namespace Go.Proofs.YthfkpalfopdmhaaGreatDoor
open Go.RowKit
theorem AH {a b:Bool} (h:a=b):Ending.returned (.bool a)=.returned (.bool b):=by rw[h]
def Lj (b:Bool) (w:World) (e:Ending) (w':World):Prop:=e=.returned (.bool b)∧w=w'
theorem Ey (c:UInt8) (w:World):Calls Tryz.prog 129 #[.int .u8 c.toNat] w (Lj (Et c) w):=by
 go_enter Tryz.func129,Tryz.ntmps129
 go_wp2
 all_goals
  go_ret;refine⟨AH ?_,rfl⟩;rw[Bool.eq_iff_iff];simp[Et];omega
theorem JS (c:UInt8) (w:World):Calls Tryz.prog 131 #[.int .u8 c.toNat] w (Lj (digB c) w):=by
 go_enter Tryz.func131,Tryz.ntmps131
 go_wp2
 all_goals
  go_ret;refine⟨AH ?_,rfl⟩;rw[Bool.eq_iff_iff];simp[digB];omega
theorem QCn {c:UInt8} (h:Et c=true):wrdB c=true:=by unfold wrdB;rw[h];rfl
theorem QCo {c:UInt8} (h:Et c=false):wrdB c=digB c:=by unfold wrdB;rw[h];rfl
theorem O2 (c:UInt8) (w:World):Calls Tryz.prog 151 #[.int .u8 c.toNat] w (Lj (wrdB c) w):=by
 cases h:Et c with
 |true=>
  have HW:=AA (QCn h);have H:=AA h;clear h;go_enter Tryz.func151,Tryz.ntmps151;go_wp2_with fail
  refine(Ey c _).mono ?_;rw[H.out];rintro e w' ⟨rfl,rfl⟩;go_wp2_with fail
  go_ret;exact⟨AH HW.out.symm,rfl⟩
 |false=>
  have HW:=AA (QCo h);have H:=AA h;clear h;go_enter Tryz.func151,Tryz.ntmps151;go_wp2_with fail
  refine(Ey c _).mono ?_;rw[H.out];rintro e w' ⟨rfl,rfl⟩;go_wp2_with fail
  refine(JS c _).mono ?_;rintro e w' ⟨rfl,rfl⟩;go_wp2_with fail
  go_ret;exact⟨AH HW.out.symm,rfl⟩
theorem GP (s:ByteArray):s.data.toList.length=s.size:=rfl
theorem take_snoc (s:ByteArray) (k:Nat) (h:k<s.size):s.data.toList.take (k+1)=s.data.toList.take k++[s[k]]:=by
 rw[List.take_succ_eq_append_getElem (by simpa using h)];rfl
theorem O3 (s:ByteArray) (k:Nat) (h:¬k<s.size):s.data.toList.take k=s.data.toList:=
 List.take_of_length_le (by simp;show s.size≤k;omega)
theorem drop_at (s:ByteArray) (k:Nat) (h:k<s.size):s.data.toList.drop k=s[k]::s.data.toList.drop (k+1):=by
 rw[List.drop_eq_getElem_cons (by rw[GP];exact h)];rfl
theorem Q1 {a b:ByteArray} (h:a.data.toList=b.data.toList):a=b:=by
 cases a with|mk a=>cases b with|mk b=>cases a;cases b;simp at h;subst h;rfl
theorem FM (s:ByteArray) (k:Nat):s.extract 0 k=⟨(s.data.toList.take k).toArray⟩:=by
 apply Q1;simp[ByteArray.data_extract,List.extract_eq_take_drop]
theorem extract_drop (s:ByteArray) (k:Nat):(s.extract k s.size).data.toList=s.data.toList.drop k:=by
 rw[ByteArray.data_extract,Array.toList_extract,List.extract_eq_take_drop,List.take_of_length_le (by simp)]
theorem Ln (p:UInt8→Bool) (s:ByteArray) (k:Nat) (h:k<s.size) (ha:(s.data.toList.take k).all p=true) (hp:p s[k]=false):s.data.toList.takeWhile p=s.data.toList.take k:=by
 have e:s.data.toList=s.data.toList.take k++s[k]::s.data.toList.drop (k+1):=by rw[←drop_at s k h,List.take_append_drop]
 generalize s.data.toList.take k=a at *;generalize s.data.toList.drop (k+1)=b at *;rw[e,List.takeWhile_append_of_pos (by simpa using ha),List.takeWhile_cons,if_neg (by rw[hp];simp)];simp
theorem Na (p:UInt8→Bool) (s:ByteArray) (k:Nat) (h:¬k<s.size) (ha:(s.data.toList.take k).all p=true):s.data.toList.takeWhile p=s.data.toList.take k:=by
 rw[O3 s k h]at *;generalize s.data.toList=l at *;have:=List.takeWhile_append_of_pos (l₁:=l) (l₂:=[]) (p:=p) (by simpa using ha);simpa using this
theorem O4 (p:UInt8→Bool) (s:ByteArray) (k:Nat) (h:k<s.size) (ha:(s.data.toList.take k).all p=true) (hp:p s[k]=true):(s.data.toList.take (k+1)).all p=true:=by
 rw[take_snoc s k h,List.all_append,ha];simp[hp]
def SU (l:List UInt8) (w:World) (e:Ending) (w':World):Prop:=e=.returned (.string ⟨l.toArray⟩)∧w=w'
theorem IN {l l':List UInt8} {w:World} {e:Ending} {u:ByteArray} (he:e=.returned (.string u)) (h:u=⟨l'.toArray⟩) (h2:l=l'):SU l w e w:=by
 subst h;subst h2;exact⟨he,rfl⟩
set_option maxHeartbeats 1000000 in
theorem Jt (s:ByteArray) (w:World) (hs:s.size≤100000):Calls Tryz.prog 73 #[.string s,.func (.func 151) #[] #[]] w (SU (s.data.toList.takeWhile wrdB) w):=by
 go_enter Tryz.func73,Tryz.ntmps73;go_wp2_with fail
 go_loop [5] (fun i=>∃k:Nat,k≤s.size∧i=.int .i64 k∧(s.data.toList.take k).all wrdB=true) (fun i=>s.size-(intOf i).toNat)
 case atStart=>exact⟨0,Nat.zero_le _,rfl,rfl⟩
 case round=>
  obtain⟨k,hk,rfl,ha⟩:=hrel;have HA:=AA ha;clear ha;by_cases hlt:k<s.size
  ·cases hp:wrdB (s[k]'hlt)with
   |true=>
    have HS:=AA (O4 wrdB s k hlt HA.out hp);have HP:=AA hp;clear hp;go_wp2_with fail
    refine(O2 (s[k]'hlt) _).mono ?_
    rw[HP.out];rintro e w' ⟨rfl,rfl⟩;go_wp2_with fail
    go_round;case rel=>exact⟨k+1,by omega,by go_num,HS.out⟩
    case measure=>simp[intOf];omega
   |false=>
    have HS:=AA (Ln wrdB s k hlt HA.out hp);have HP:=AA hp;clear hp;go_wp2_with fail
    refine(O2 (s[k]'hlt) _).mono ?_
    rw[HP.out];rintro e w' ⟨rfl,rfl⟩;go_wp2_with fail
    go_ret;exact IN rfl (FM s k) HS.out
  ·have HS:=AA (Na wrdB s k hlt HA.out);go_wp2_with fail
   go_ret;exact IN rfl (FM s k) HS.out
end Go.Proofs.YthfkpalfopdmhaaGreatDoor
