/- Texts of the walk, packed. -/
import Derived.Test.YthfkpalfopdmhaaGreatDoorX08
import Derived.Test.YthfkpalfopdmhaaGreatDoorX04
import Derived.Test.YthfkpalfopdmhaaGreatDoorX07
import Derived.Test.YthfkpalfopdmhaaGreatDoorX02
import Derived.Test.YthfkpalfopdmhaaGreatDoorX06
import Derived.Orders
import Derived.Test.YthfkpalfopdmhaaGreatDoorX00
namespace Go.Proofs.YthfkpalfopdmhaaGreatDoor
open Go.RowKit
def Ad {α:Type} (q:α→α→Bool):List α→List α→Bool
 |[],[]=>true
 |a::l,b::m=>q a b&&Ad q l m
 |_,_=>false
section
variable {α:Type} {q:α→α→Bool}
theorem Ce:∀{L M:List α},L.length≠M.length→Ad q L M=false
 |[],[],h=>absurd rfl h
 |[],b::m,_=>rfl
 |a::l,[],_=>rfl
 |a::l,b::m,h=>by
  unfold Ad;rw[Ce (L:=l) (M:=m) (fun e=>h (by simp[e]))];simp
theorem CB:∀{L M:List α} {k:Nat} {a b:α},L[k]?=some a→M[k]?=some b→Ad q (L.take (k+1)) (M.take (k+1))=(Ad q (L.take k) (M.take k)&&q a b)
 |[],M,k,a,b,h,_=>by simp at h
 |x::l,[],k,a,b,_,h=>by simp at h
 |x::l,y::m,0,a,b,h,h2=>by
  simp at h h2;subst h;subst h2;simp[Ad]
 |x::l,y::m,k+1,a,b,h,h2=>by
  have ih:=CB (L:=l) (M:=m) (k:=k) (a:=a) (b:=b) (by simpa using h) (by simpa using h2);rw[List.take_succ_cons,List.take_succ_cons,List.take_succ_cons,List.take_succ_cons];unfold Ad;rw[ih,Bool.and_assoc]
theorem DN:∀{L M:List α} {k:Nat} {a b:α},L[k]?=some a→M[k]?=some b→q a b=false→Ad q L M=false
 |[],M,k,a,b,h,_,_=>by simp at h
 |x::l,[],k,a,b,_,h,_=>by simp at h
 |x::l,y::m,0,a,b,h,h2,he=>by
  simp at h h2;subst h;subst h2;unfold Ad;rw[he];rfl
 |x::l,y::m,k+1,a,b,h,h2,he=>by
  unfold Ad;rw[DN (L:=l) (M:=m) (k:=k) (by simpa using h) (by simpa using h2) he];simp
theorem Cf {L M:List α} {k:Nat} (hk:L.length≤k) (hl:L.length=M.length) (h:Ad q (L.take k) (M.take k)=true):Ad q L M=true:=by
 rwa [List.take_of_length_le hk,List.take_of_length_le (by omega)]at h
theorem PP (hq:∀a,q a a=true):∀L:List α,Ad q L L=true
 |[]=>rfl
 |a::l=>by unfold Ad;rw[hq,PP hq l];rfl
end
def EI (p:Bool) (a b:Nod):Bool:=a.op==b.op&&a.n==b.n&&a.name==b.name&&(!p||a.pl==b.pl)
def ET (p:Bool) (L M:List Nod):Bool:=Ad (EI p) L M
def MX (L M:List (List UInt8)):Bool:=Ad (fun a b=>a==b) L M
set_option maxRecDepth 100000 in
set_option maxHeartbeats 2000000 in
theorem Q9 (a b:Nod) (w:World):Calls Tryz.prog 177 #[.agg #[.int .i64 a.op,.int .i64 a.n,.string ⟨a.name.toArray⟩,.int .i64 a.pl],.agg #[.int .i64 b.op,.int .i64 b.n,.string ⟨b.name.toArray⟩,.int .i64 b.pl]] w (AN (EI false a b) w):=by
 go_enter Tryz.func177,Tryz.ntmps177;go_wp2_with fail
 all_goals
  go_ret;refine⟨AH ?_,?_⟩
  ·simp_all [EI]
  ·exact((Below.refl _ _).alloc (Nat.le_refl _) _).alloc (by simp) _
set_option maxRecDepth 100000 in
set_option maxHeartbeats 4000000 in
theorem Qp (v1 v2:Value) (L M:List Nod) (w:World) (h1:BA w v1 L) (h2:BA w v2 M) (hl:L.length≤10000):
  Calls Tryz.prog 176 #[v1,v2,.func (.func 177) #[] #[]] w (AN (ET false L M) w):=by
 have HR1:=AA h1;have HR2:=AA h2;obtain⟨A,c,rfl,hc,hm1,hr1⟩:=h1;obtain⟨A',c',rfl,hc',hm2,hr2⟩:=h2;clear hr1 hr2;by_cases hL:L.length=M.length
 ·rw[←hL]at HR2 hc'⊢;have HL:=AA hL;have HM:=AA (show∀k,k<L.length→k<M.length by rw[hL];exact fun _ h=>h);clear hL;go_enter Tryz.func176,Tryz.ntmps176;go_wp2_with fail
  go_loopw [17] (fun i wr=>∃k:Nat,k≤L.length∧i=.int .i64 k∧Below w.heap.size w wr∧Ad (EI false) (L.take k) (M.take k)=true) (fun i _=>L.length-(intOf i).toNat)
  case atStart=>exact⟨0,Nat.zero_le _,rfl,Below.refl _ _,rfl⟩
  case round=>
   obtain⟨k,hk,rfl,hbel,hs⟩:=hrel;have HS:=AA hs;have HB:=AA hbel;have hsz:=hbel.size;clear hs;by_cases hlt:k<L.length
   ·have hkm:=HM.out k hlt;have ha:L[k]?=some L[k]:=List.getElem?_eq_getElem hlt;have hb:M[k]?=some (M[k]'hkm):=List.getElem?_eq_getElem hkm
    generalize L[k]=a at *;generalize M[k]'hkm=b at *
    obtain⟨A2,c2,hv,_,_,hr⟩:=HR1.out.on hbel;obtain⟨rfl,_,rfl⟩:A=A2∧True∧c=c2:=by simpa using hv
    obtain⟨A2',c2',hv',_,_,hr'⟩:=HR2.out.on hbel;obtain⟨rfl,rfl⟩:A'=A2'∧c'=c2':=by simp only[Value.slice.injEq]at hv';exact⟨hv'.1,hv'.2.2⟩
    obtain⟨g,o,rfl,hg,x0,x1,x2,x3⟩:=hr k a ha;obtain⟨g',o',rfl,hg',y0,y1,y2,y3⟩:=hr' k b hb;have HN:=AA (fun h=>DN (q:=EI false) ha hb h);have HY:=AA (CB (q:=EI false) ha hb);clear ha hb hr hr' hv hv' hbel;cases e1:EI false a b with
    |false=>
     have HE:=AA e1;clear e1;go_wp2_with fail
     refine(Q9 a b _).mono ?_;rw[HE.out];rintro e w1 ⟨rfl,hb⟩;have HB2:=AA (((HB.out.alloc hsz _).alloc (by simp;omega) _).trans (hb.mono (by simp;omega)));clear hb;go_wp2_with fail
     go_ret;exact⟨AH (HN.out HE.out).symm,HB2.out⟩
    |true=>
     have HE:=AA e1;clear e1;go_wp2_with fail
     refine(Q9 a b _).mono ?_;rw[HE.out];rintro e w1 ⟨rfl,hb⟩;have HB2:=AA (((HB.out.alloc hsz _).alloc (by simp;omega) _).trans (hb.mono (by simp;omega)));clear hb;go_wp2_with fail
     go_roundw;case rel=>exact⟨k+1,by omega,by go_num,HB2.out,by rw[HY.out,HS.out,HE.out];rfl⟩
     case measure=>simp[intOf];omega
   ·have HQ:=AA (Cf (by omega) HL.out HS.out);clear hbel;go_wp2_with fail
    go_ret;exact⟨AH HQ.out.symm,HB.out⟩
 ·have HQ:=AA (Ce (q:=EI false) hL);have hd:((L.length:Int) != (M.length:Int))=true:=by simp;omega
  clear hL;go_enter Tryz.func176,Tryz.ntmps176;go_wp2_with fail
  go_ret;exact⟨AH HQ.out.symm,Below.refl _ _⟩
theorem PQ (v1 v2:Value) (L M:List Nod) (w:World) (h1:BA w v1 L) (h2:BA w v2 M) (hl:L.length≤10000):Calls Tryz.prog 127 #[v1,v2] w (AN (ET false L M) w):=by
 have HR1:=AA h1;have HR2:=AA h2;clear h1 h2;go_enter Tryz.func127,Tryz.ntmps127;go_wp2_with fail
 refine(Qp v1 v2 L M _ HR1.out HR2.out hl).mono ?_;rintro e w1 ⟨rfl,hb⟩;go_wp2_with fail
 go_ret;exact⟨rfl,hb⟩
end Go.Proofs.YthfkpalfopdmhaaGreatDoor
namespace Go.Proofs.YthfkpalfopdmhaaGreatDoor
open Go
structure Stm where
 kind:Int
 reg:List UInt8
 name:List UInt8
 e:List Nod
 f:List Nod
 n:Int
 body:Int
 els:Int
 pl:Int
deriving DecidableEq
inductive Bk where
 |nil
 |cons (s:Stm) (b e r:Bk)
deriving DecidableEq
def Bk.count:Bk→Nat
 |.nil=>0
 |.cons _ b e r=>b.count+e.count+r.count+1
def Bk.flat:Bk→List Stm
 |.nil=>[]
 |.cons s b e r=>s::(b.flat++(e.flat++r.flat))
def GT (k:Int):Prop:=k=11∨k=12
instance (k:Int):Decidable (GT k):=inferInstanceAs (Decidable (_∨_))
def Bk.deep:Bk→Nat
 |.nil=>0
 |.cons s b e r=>max (if GT s.kind then max (b.deep+1) (e.deep+1)else 0) r.deep
def Bk.fit:Bk→Prop
 |.nil=>True
 |.cons s b e r=>s.body=b.count∧s.els=e.count∧(0<b.count→GT s.kind)∧(0<e.count→s.kind=11)∧b.fit∧e.fit∧r.fit
def Bk.brk:Nat→Bk→Bool
 |_,.nil=>true
 |l,.cons s b e r=>(!decide (s.kind=13)||decide (0<l))&&Bk.brk (if s.kind=12 then l+1 else l) b&&Bk.brk (if s.kind=12 then l+1 else l) e&&Bk.brk l r
theorem Ba (b:Bk):b.flat.length=b.count:=by
 induction b with
 |nil=>rfl
 |cons s b e r h1 h2 h3=>simp only[Bk.flat,Bk.count,List.length_cons,List.length_append,h1,h2,h3];omega
theorem count_nil {b:Bk} (h:b.count=0):b=.nil:=by
 cases b with
 |nil=>rfl
 |cons s b e r=>simp[Bk.count]at h
def JH (x:Stm) (n:Nat):Prop:=0≤x.body∧0≤x.els∧x.body+x.els≤n∧(0<x.body→GT x.kind)∧(0<x.els→x.kind=11)
instance (x:Stm) (n:Nat):Decidable (JH x n):=inferInstanceAs (Decidable (_∧_∧_∧(_→_)∧(_→_)))
def Dv (x:Stm) (r:List Stm):List Stm:=r.take x.body.toNat
def Dl (x:Stm) (r:List Stm):List Stm:=(r.drop x.body.toNat).take x.els.toNat
def Dw (x:Stm) (r:List Stm):List Stm:=r.drop (x.body.toNat+x.els.toNat)
def H8:Nat→List Stm→Option Bk
 |_,[]=>some .nil
 |0,_::_=>none
 |f+1,x::r=>if JH x r.length then
   match H8 f (Dv x r),H8 f (Dl x r),H8 f (Dw x r)with
   |some b,some e,some t=>some (.cons x b e t)
   |_,_,_=>none
  else none
def Dx (L:List Stm):Option Bk:=H8 L.length L
theorem Nk {x:Stm} {r:List Stm} (h:JH x r.length):((Dv x r).length:Int)=x.body∧((Dl x r).length:Int)=x.els∧(Dw x r).length+(x.body+x.els)=r.length:=by
 obtain⟨h1,h2,h3,_⟩:=h;unfold Dv Dl Dw;simp only[List.length_take,List.length_drop];omega
theorem PR (x:Stm) (r:List Stm):Dv x r++(Dl x r++Dw x r)=r:=by
 unfold Dv Dl Dw;rw[←List.drop_drop,List.take_append_drop,List.take_append_drop]
theorem RA:∀(f:Nat) (L:List Stm) (b:Bk),H8 f L=some b→b.fit∧b.flat=L:=by
 intro f
 induction f with
 |zero=>
  intro L b h;cases L with
  |nil=>simp[H8]at h;subst h;exact⟨trivial,rfl⟩
  |cons x r=>simp[H8]at h
 |succ f ih=>
  intro L b h;cases L with
  |nil=>simp[H8]at h;subst h;exact⟨trivial,rfl⟩
  |cons x r=>
   unfold H8 at h;split at h
   ·rename_i hh
    split at h
    ·rename_i b1 e1 t1 h1 h2 h3
     simp at h;subst h;obtain⟨f1,g1⟩:=ih _ _ h1;obtain⟨f2,g2⟩:=ih _ _ h2;obtain⟨f3,g3⟩:=ih _ _ h3;obtain⟨l1,l2,l3⟩:=Nk hh;have c1:(b1.count:Int)=x.body:=by rw[←Ba,g1];exact l1
     have c2:(e1.count:Int)=x.els:=by rw[←Ba,g2];exact l2
     refine⟨⟨c1.symm,c2.symm,fun h=>hh.2.2.2.1 (by omega),fun h=>hh.2.2.2.2 (by omega),f1,f2,f3⟩,?_⟩;show x::(b1.flat++(e1.flat++t1.flat))=x::r;rw[g1,g2,g3,PR]
    ·cases h
   ·cases h
theorem Lt (s:Stm) (b e r:Bk) (h:(Bk.cons s b e r).fit):JH s (b.flat++(e.flat++r.flat)).length∧Dv s (b.flat++(e.flat++r.flat))=b.flat∧Dl s (b.flat++(e.flat++r.flat))=e.flat∧Dw s (b.flat++(e.flat++r.flat))=r.flat:=by
 obtain⟨h1,h2,h3,h4,_⟩:=h;have e1:s.body.toNat=b.flat.length:=by rw[h1,Ba];simp
 have e2:s.els.toNat=e.flat.length:=by rw[h2,Ba];simp
 refine⟨⟨by omega,by omega,?_,fun h=>h3 (by omega),fun h=>h4 (by omega)⟩,?_,?_,?_⟩
 ·simp only[List.length_append,Ba];omega
 ·unfold Dv;rw[e1,List.take_left]
 ·unfold Dl;rw[e1,e2,List.drop_left,List.take_left]
 ·unfold Dw;rw[e1,e2,←List.drop_drop,List.drop_left,List.drop_left]
theorem RB (b:Bk):b.fit→∀f,b.count≤f→H8 f b.flat=some b:=by
 induction b with
 |nil=>intro _ f _;cases f<;>rfl
 |cons s b e r i1 i2 i3=>
  intro h f hf;simp only[Bk.count]at hf;cases f with
  |zero=>omega
  |succ f=>
   obtain⟨p1,p2,p3,p4⟩:=Lt s b e r h;show H8 (f+1) (s::(b.flat++(e.flat++r.flat)))=_;unfold H8;rw[if_pos p1,p2,p3,p4,i1 h.2.2.2.2.1 f (by omega),i2 h.2.2.2.2.2.1 f (by omega),i3 h.2.2.2.2.2.2 f (by omega)]
theorem Ig {b:Bk} (h:b.fit):Dx b.flat=some b:=RB b h _ (by rw[Ba];exact Nat.le_refl _)
theorem Lu {L:List Stm} {b:Bk} (h:Dx L=some b):b.fit∧b.flat=L:=RA _ _ _ h
theorem PS {f:Nat} {L:List Stm} (h:L.length≤f):H8 f L=Dx L:=by
 cases h1:H8 f L with
 |some b=>
  obtain⟨h2,rfl⟩:=RA _ _ _ h1;exact(Ig h2).symm
 |none=>
  cases h2:Dx L with
  |none=>rfl
  |some b=>
   obtain⟨h3,rfl⟩:=Lu h2;rw[RB b h3 f (by rw[←Ba];exact h)]at h1;cases h1
def QEh:List (List UInt8):=[[],[114,101],[114,110],[110,101],[114,110,101,102],[110],[110],[],[],[110],[110],[101,98],[107,98],[],[101]]
def QEi (k:Int):List UInt8:=if 1≤k∧k≤14 then QEh.getD k.toNat []else[]
def Ih (k:Int) (c:UInt8):Bool:=(QEi k).any (fun x=>x==c)
def CO:List (List UInt8):=[[],[],[108,111,97,100],[115,116,111,114,101],[99,97,115],[102,108,117,115,104],[111,112,116],[115,102,101,110,99,101],[109,102,101,110,99,101],[116,97,107,101],[103,105,118,101],[105,102],[108,111,111,112],[98,114,101,97,107],[99,104,101,99,107]]
def Jr (k:Int):List UInt8:=CO.getD k.toNat []
def FU:List UInt8:=[101,108,115,101]
def Dy (x:Stm):Bool:=decide (1≤x.kind)&&decide (x.kind≤14)&&decide (0≤x.pl)&&decide (x.pl≤4000)&&(if Ih x.kind 114 then nameB x.reg else x.reg.isEmpty)&&(if Ih x.kind 110 then nameB x.name else x.name.isEmpty)&&(if Ih x.kind 101 then BZ x.e else x.e.isEmpty)&&(if Ih x.kind 102 then BZ x.f else x.f.isEmpty)&&(if Ih x.kind 107 then decide (1≤x.n)&&decide (x.n≤8)else decide (x.n=0))
def XZ (l:Nat) (L:List Stm):Option Nat:=match Dx L with
 |some b=>if b.brk l=true then some b.deep else none
 |none=>none
def CH (L:List Stm):Bool:=decide (L.length≤40)&&L.all Dy&&(match XZ 0 L with
 |some d=>decide (d≤12)
 |none=>false)
def FV (b:Bk):Prop:=b.fit∧b.flat.all Dy=true
theorem DX {L:List Stm} (h:CH L=true):∃b:Bk,b.flat=L∧FV b∧b.count≤40∧b.brk 0=true∧b.deep≤12∧Dx L=some b:=by
 unfold CH XZ at h;simp only[Bool.and_eq_true,decide_eq_true_eq]at h;obtain⟨⟨h1,h2⟩,h3⟩:=h;cases ht:Dx L with
 |none=>rw[ht]at h3;cases h3
 |some b=>
  obtain⟨g1,rfl⟩:=Lu ht;rw[ht]at h3;simp only at h3;cases hb:b.brk 0 with
  |false=>rw[hb]at h3;simp at h3
  |true=>
   rw[hb]at h3;simp at h3;exact⟨b,rfl,⟨g1,h2⟩,by rw[←Ba];exact h1,hb,h3,rfl⟩
theorem UZ {b:Bk} (h:b.fit):CH b.flat=(decide (b.count≤40)&&b.flat.all Dy&&b.brk 0&&decide (b.deep≤12)):=by
 unfold CH XZ;rw[Ig h,Ba];cases hb:b.brk 0<;>simp[hb]
theorem OP {b:Bk} (h:FV b) (h1:b.count≤40) (h2:b.brk 0=true) (h3:b.deep≤12):CH b.flat=true:=by
 rw[UZ h.1,h.2,h2];simp;omega
def I4 (x:Stm):List UInt8:=
 if x.kind=1 then x.reg++([32,61,32]++Bi x.e)
 else if x.kind=2 then Jr 2++(32::(x.reg++([32,61,32]++x.name)))
 else if x.kind=3 then Jr 3++(32::(x.name++([32,61,32]++Bi x.e)))
 else if x.kind=4 then Jr 4++(32::(x.reg++([32,61,32]++(x.name++([44,32]++(Bi x.e++([44,32]++Bi x.f)))))))
 else if x.kind=11∨x.kind=14 then Jr x.kind++(32::Bi x.e)
 else if x.kind=12 then Jr 12++(32::Lib.itoa x.n)
 else if x.kind=7∨x.kind=8∨x.kind=13 then Jr x.kind
 else Jr x.kind++(32::x.name)
def Bw:List UInt8→Bk→List UInt8
 |_,.nil=>[]
 |ind,.cons s b e r=>ind++(I4 s++((if GT s.kind then[32,123,10]++(Bw (ind++[32,32]) b++((if 0<e.count then ind++([125,32]++FU++[32,123,10])++Bw (ind++[32,32]) e else[])++(ind++[125,10])))else[59,10])++Bw ind r))
def showS (L:List Stm):List UInt8:=if CH L=true then(match Dx L with
 |some b=>Bw [] b
 |none=>[])else[]
theorem Ko {b:Bk} (h:b.fit) (hr:CH b.flat=true):showS b.flat=Bw [] b:=by
 unfold showS;rw[if_pos hr,Ig h]
theorem QAZ {L:List Stm} (h:CH L=false):showS L=[]:=by unfold showS;rw[h];rfl
def DO (p:Bool) (a b:Stm):Bool:=a.kind==b.kind&&a.reg==b.reg&&a.name==b.name&&a.n==b.n&&a.body==b.body&&a.els==b.els&&(!p||a.pl==b.pl)&&ET p a.e b.e&&ET p a.f b.f
def Jy (p:Bool) (L M:List Stm):Bool:=Ad (DO p) L M
end Go.Proofs.YthfkpalfopdmhaaGreatDoor
namespace Go.Proofs.YthfkpalfopdmhaaGreatDoor
open Go.RowKit
end Go.Proofs.YthfkpalfopdmhaaGreatDoor
namespace Go.Proofs.YthfkpalfopdmhaaGreatDoor
open Go
theorem RD {u:Nat} (h:u<10):Lib.decDigits u=[UInt8.ofNat (48+u)]:=Lib.decDigits_one h
theorem QAa {u:Nat} (h:¬u<10):Lib.decDigits u=Lib.decDigits (u/10)++[UInt8.ofNat (48+u%10)]:=by
 rw[Lib.decDigits,dif_neg h]
theorem QAb {k:Nat} (h:k<10):digB (UInt8.ofNat (48+k))=true∧(UInt8.ofNat (48+k)).toNat=48+k:=by
 have e:(UInt8.ofNat (48+k)).toNat=48+k:=by simp;omega
 refine⟨?_,e⟩;unfold digB;rw[e];simp;omega
theorem Xa {c:UInt8} (h:digB c=true):[c].all digB=true:=by rw[List.all_cons,h];rfl
theorem Sj (u:Nat):(Lib.decDigits u).all digB=true∧Cd (Lib.decDigits u)=u∧Lib.decDigits u≠[]:=by
 induction u using Nat.strongRecOn with
 |_ u ih=>
  by_cases h:u<10
  ·rw[RD h];have k:=QAb h;refine⟨Xa k.1,?_,by simp⟩;show 0*10+((UInt8.ofNat (48+u)).toNat-48)=u;rw[k.2];omega
  ·obtain⟨i1,i2,i3⟩:=ih (u/10) (by omega);have k:=QAb (k:=u%10) (by omega);rw[QAa h];exact⟨by rw[List.all_append,i1,Xa k.1];rfl,by rw[Qy,i2,k.2];omega,by simp⟩
def PT (r:List UInt8):Prop:=r=[]∨(∃y,r=32::y)∨(∃y,r=41::y)∨(∃y,r=44::y)∨(∃y,r=59::y)
theorem Lx {p:UInt8→Bool} (h1:p 32=false) (h2:p 41=false) (h3:p 44=false) (h4:p 59=false) {r:List UInt8} (hr:PT r) (m:List UInt8) (hm:m.all p=true):(m++r).takeWhile p=m:=by
 have e:m.takeWhile p=m:=by
  have:=List.takeWhile_append_of_pos (l₁:=m) (l₂:=[]) (p:=p) (by simpa using hm);simpa using this
 rcases hr with rfl|⟨y,rfl⟩|⟨y,rfl⟩|⟨y,rfl⟩|⟨y,rfl⟩
 ·rw[List.append_nil,e]
 ·rw[IM p 32 h1,e]
 ·rw[IM p 41 h2,e]
 ·rw[IM p 44 h3,e]
 ·rw[IM p 59 h4,e]
def Tok.bare (t:Tok):Tok:={t with pl:=0}
theorem Ii {c:UInt8} {m r:List UInt8} {k n:Int} (a:Nat) (hb:Es c=false) (h2:EF ((c::m)++r)=false) (hc:Ag ((c::m)++r)=⟨0,k,c::m,n⟩):
  AS ((c::m)++r) a=(AS r (a+(c::m).length)).pre [⟨k,c::m,n,a⟩]:=by
 rw[List.cons_append]at *;rw[Gj _ a hb h2 (by rw[hc]),hc];simp only;rw[←List.cons_append,List.drop_left]
theorem Nl {c:UInt8} (h:c≠47) (r:List UInt8):EF (c::r)=false:=by
 unfold EF;simp[List.isPrefixOf];exact fun e=>absurd e.symm h
theorem YZ {l r:List UInt8} (a:Nat) (h:nameB l=true) (hr:PT r):AS (l++r) a=(AS r (a+l.length)).pre [⟨1,l,0,a⟩]:=by
 cases l with
 |nil=>exact absurd h (by decide)
 |cons c m=>
  unfold nameB at h;simp only[Bool.and_eq_true,decide_eq_true_eq]at h;obtain⟨⟨⟨⟨_,h1⟩,h2⟩,h3⟩,_⟩:=h;have hc:Et c=true:=by simpa using h2
  have hcc:c.toNat=95∨(97≤c.toNat∧c.toNat≤122):=by unfold Et at hc;simp at hc;omega
  have hb:Es c=false:=by unfold Es;simp;omega
  refine Ii a hb (Nl (fun e=>by subst e;simp at hcc) _) ?_;rw[List.cons_append,Ew _ hc,←List.cons_append];unfold Di;rw[Lx (by decide) (by decide) (by decide) (by decide) hr (c::m) h3,if_neg (by omega)]
theorem scan_num {u:Nat} {r:List UInt8} (a:Nat) (h:u≤4294967296) (hr:PT r):AS (Lib.decDigits u++r) a=(AS r (a+(Lib.decDigits u).length)).pre [⟨2,Lib.decDigits u,u,a⟩]:=by
 obtain⟨h1,h2,h3⟩:=Sj u;generalize Lib.decDigits u=l at *;cases l with
 |nil=>exact absurd rfl h3
 |cons c m=>
  have hc:digB c=true:=by simp at h1;exact h1.1
  have hcc:48≤c.toNat∧c.toNat≤57:=by unfold digB at hc;simpa using hc
  have hb:Es c=false:=by unfold Es;simp;omega
  have hl:Et c=false:=by unfold Et;simp;omega
  refine Ii a hb (Nl (fun e=>by subst e;simp at hcc) _) ?_;rw[List.cons_append,Gi _ hl hc,←List.cons_append];unfold FZ;rw[Lx (by decide) (by decide) (by decide) (by decide) hr (c::m) h1,h2,if_neg (by omega)]
theorem Jz {c:UInt8} {r:List UInt8} (a:Nat) (hc:c=40∨c=41∨c=45∨(c=33∧r.head?≠some 61)):AS (c::r) a=(AS r (a+1)).pre [⟨3,[c],0,a⟩]:=by
 have hcut:Ag (c::r)=⟨0,3,[c],0⟩:=by
  have hl:Et c=false:=by rcases hc with rfl|rfl|rfl|⟨rfl,_⟩<;>decide
  have hd:digB c=false:=by rcases hc with rfl|rfl|rfl|⟨rfl,_⟩<;>decide
  rw[EV r hl hd];unfold Du;have:Eu (c::r)=some [c]:=by
   unfold Eu Bn;rcases hc with rfl|rfl|rfl|⟨rfl,h⟩
   ·simp[List.isPrefixOf]
   ·simp[List.isPrefixOf]
   ·simp[List.isPrefixOf]
   ·cases r with
    |nil=>simp[List.isPrefixOf]
    |cons b r=>
     have hb:(61==b)=false:=by
      rw[beq_eq_false_iff_ne];intro e;exact h (by rw[←e];rfl)
     simp[List.isPrefixOf,hb]
  rw[this]
 have hb:Es c=false:=by rcases hc with rfl|rfl|rfl|⟨rfl,_⟩<;>decide
 have h2:EF (c::r)=false:=Nl (by rcases hc with rfl|rfl|rfl|⟨rfl,_⟩<;>decide) _;have:=Ii (c:=c) (m:=[]) (r:=r) (k:=3) (n:=0) a hb h2 hcut;exact this
theorem Ya:∀op:Fin 16,BG (op:Nat)=some 2→(Ag (A7 op)=⟨0,3,A7 op,0⟩∧EF (A7 op)=false∧(match A7 op with|[]=>false|c::_=>!Es c)=true):=by decide
theorem Vs {k:Nat} (hk:BG (k:Int)=some 2) (r:List UInt8) (a:Nat):AS (A7 k++32::r) a=(AS r (a+(A7 k).length+1)).pre [⟨3,A7 k,0,a⟩]:=by
 have hop:=GQ hk;obtain⟨h1,h2,h3⟩:=Ya ⟨k,by omega⟩ hk;simp only at h1 h2 h3;generalize A7 k=s at *;cases s with
 |nil=>exact absurd h3 (by decide)
 |cons c m=>
  have hb:Es c=false:=by simpa using h3
  rw[Ii (k:=3) (n:=0) a hb (by rw[QCk (.inr rfl)];exact h2) (by rw[QCl (.inr rfl)];exact h1),AU _ _ (by decide)]
def EW (k:Nat):Tok:=⟨3,A7 k,0,0⟩
def BL (inner:Bool):Ex→List Tok
 |.leaf a=>if a.op=1 then[⟨2,Lib.itoa a.n,a.n,0⟩]else[⟨1,a.name,0,0⟩]
 |.un a x=>EW a.op.toNat::BL true x
 |.bin a x y=>if inner=true then⟨3,[40],0,0⟩::(BL true x++EW a.op.toNat::BL true y)++[⟨3,[41],0,0⟩]else BL true x++EW a.op.toNat::BL true y
def JY (x:Ex):Prop:=x.ok∧x.flat.all CN=true
theorem Oh {a:Nod} {x:Ex} (h:JY (.un a x)):JY x:=⟨h.1.2,by have:=h.2;simp only[Ex.flat,List.all_cons,Bool.and_eq_true]at this;exact this.2⟩
theorem Kp {a:Nod} {x y:Ex} (h:JY (.bin a x y)):JY x∧JY y:=by
 have:=h.2;simp only[Ex.flat,List.all_cons,List.all_append,Bool.and_eq_true]at this;exact⟨⟨h.1.2.1,this.2.1⟩,⟨h.1.2.2,this.2.2⟩⟩
theorem Ij {x:Ex} (h:JY x):CN x.top=true:=List.all_eq_true.1 h.2 _ (by rw[LF];simp)
theorem PU {a:Nod} (h:CN a=true) (h1:a.op=1):0≤a.n∧a.n≤4294967296∧a.name=[]:=by
 unfold CN at h;simp only[h1,if_true,Bool.and_eq_true,decide_eq_true_eq,List.isEmpty_iff]at h;exact⟨h.2.1.1,h.2.1.2,h.2.2⟩
theorem Nn {a:Nod} (h:CN a=true) (h2:a.op=2):nameB a.name=true∧a.n=0:=by
 unfold CN at h;rw[if_neg (by omega),if_pos h2]at h;simp only[Bool.and_eq_true,decide_eq_true_eq]at h;exact⟨h.2.2,h.2.1⟩
theorem PV {a:Nod} (h:CN a=true) (h1:a.op≠1) (h2:a.op≠2):a.n=0∧a.name=[]:=by
 unfold CN at h;rw[if_neg h1,if_neg h2]at h;simp only[Bool.and_eq_true,decide_eq_true_eq,List.isEmpty_iff]at h;exact⟨h.2.1,h.2.2⟩
theorem Sl {a:Nod} (h:(Ex.leaf a).ok):a.op=1∨a.op=2:=by
 have h':BG a.op=some 0:=h;unfold BG at h';split at h'
 ·assumption
 ·split at h'
  ·simp at h'
  ·split at h'<;>simp at h'
theorem QAc {a:Nod} (h:BG a.op=some 1):a.op=3∨a.op=4:=by
 unfold BG at h;split at h
 ·simp at h
 ·split at h
  ·assumption
  ·split at h<;>simp at h
theorem Yb:∀(x:Ex),JY x→∀r,(AZ true x++r).head?≠some 61∧AZ true x≠[]:=by
 intro x
 induction x with
 |leaf a=>
  intro h r;have hn:CN a=true:=Ij h;rcases Sl h.1 with h1|h2
  ·obtain⟨b1,b2,_⟩:=PU hn h1;obtain⟨u,hu⟩:∃u:Nat,a.n=u:=⟨a.n.toNat,by omega⟩
   have e:AZ true (.leaf a)=Lib.decDigits u:=by simp only[AZ,h1,if_true];rw[hu,Lib.itoa_nonneg]
   rw[e];obtain⟨d1,_,d3⟩:=Sj u;cases hd:Lib.decDigits u with
   |nil=>exact absurd hd d3
   |cons c m=>
    rw[hd]at d1;refine⟨?_,by simp⟩;simp only[List.cons_append,List.head?_cons];intro e2;simp at e2 d1;rw[e2]at d1;exact absurd d1.1 (by decide)
  ·have e:AZ true (.leaf a)=a.name:=by simp[AZ,h2]
   rw[e];have hnm:=(Nn hn h2).1;cases hd:a.name with
   |nil=>rw[hd]at hnm;exact absurd hnm (by decide)
   |cons c m=>
    rw[hd]at hnm;refine⟨?_,by simp⟩;simp only[List.cons_append,List.head?_cons];intro e2;simp at e2;subst e2;unfold nameB at hnm;simp at hnm;exact absurd hnm.1.1.2 (by decide)
 |un a x ih=>
  intro h r;have e:AZ true (.un a x)=A7 a.op.toNat++AZ true x:=rfl;rw[e];rcases QAc h.1.1 with h3|h4
  ·rw[h3];exact⟨by simp[A7,Ie],by simp[A7,Ie]⟩
  ·rw[h4];exact⟨by simp[A7,Ie],by simp[A7,Ie]⟩
 |bin a x y ih1 ih2=>
  intro h r;simp[AZ]
theorem LG (T S:List Tok) (f:Found):(f.pre S).pre T=f.pre (T++S):=SR T S f
theorem Vu:∀(x:Ex) (b:Bool) (r:List UInt8) (a:Nat),JY x→PT r→∃T,T.map Tok.bare=BL b x∧AS (AZ b x++r) a=(AS r (a+(AZ b x).length)).pre T:=by
 intro x
 induction x with
 |leaf a=>
  intro b r p h hr;have hn:CN a=true:=Ij h;rcases Sl h.1 with h1|h2
  ·obtain⟨b1,b2,_⟩:=PU hn h1;obtain⟨u,hu⟩:∃u:Nat,a.n=u:=⟨a.n.toNat,by omega⟩
   have e:AZ b (.leaf a)=Lib.decDigits u:=by simp only[AZ,h1,if_true];rw[hu,Lib.itoa_nonneg]
   have e2:BL b (.leaf a)=[⟨2,Lib.decDigits u,u,0⟩]:=by simp only[BL,h1,if_true];rw[hu,Lib.itoa_nonneg]
   rw[e,e2];exact⟨_,rfl,scan_num p (by omega) hr⟩
  ·have e:AZ b (.leaf a)=a.name:=by simp[AZ,h2]
   have e2:BL b (.leaf a)=[⟨1,a.name,0,0⟩]:=by simp[BL,h2]
   rw[e,e2];exact⟨_,rfl,YZ p (Nn hn h2).1 hr⟩
 |un a x ih=>
  intro b r p h hr;have e:AZ b (.un a x)=A7 a.op.toNat++AZ true x:=rfl;have e2:BL b (.un a x)=EW a.op.toNat::BL true x:=rfl;have hh:=(Yb x (Oh h) r).1;obtain⟨T,hT,hs⟩:=ih true r (p+1) (Oh h) hr;rw[e,e2];rcases QAc h.1.1 with h3|h4
  ·rw[h3];show∃T,_∧AS (45::(AZ true x++r)) p=(AS r (p+((AZ true x).length+1))).pre T;rw[Jz p (.inr (.inr (.inl rfl))),hs,LG,show p+1+(AZ true x).length=p+((AZ true x).length+1)from by omega];exact⟨_,by rw[List.map_append,hT];rfl,rfl⟩
  ·rw[h4];show∃T,_∧AS (33::(AZ true x++r)) p=(AS r (p+((AZ true x).length+1))).pre T;rw[Jz p (.inr (.inr (.inr ⟨rfl,hh⟩))),hs,LG,show p+1+(AZ true x).length=p+((AZ true x).length+1)from by omega];exact⟨_,by rw[List.map_append,hT];rfl,rfl⟩
 |bin a x y ih1 ih2=>
  intro b r p h hr;obtain⟨gx,gy⟩:=Kp h;have hop:=GQ h.1.1;obtain⟨k,hk⟩:∃k:Nat,a.op=k:=⟨a.op.toNat,by omega⟩
  have hk2:BG (k:Int)=some 2:=by rw[←hk];exact h.1.1
  have hkn:a.op.toNat=k:=by omega
  have core:∀(r:List UInt8) (p:Nat),PT r→∃T,T.map Tok.bare=BL true x++EW k::BL true y∧AS ((AZ true x++[32]++A7 k++[32]++AZ true y)++r) p=(AS r (p+(AZ true x++[32]++A7 k++[32]++AZ true y).length)).pre T:=by
   intro r p hr;obtain⟨T1,hT1,hs1⟩:=ih1 true (32::(A7 k++32::(AZ true y++r))) p gx (.inr (.inl ⟨_,rfl⟩));obtain⟨T2,hT2,hs2⟩:=ih2 true r (p+(AZ true x).length+1+(A7 k).length+1) gy hr;have e:(AZ true x++[32]++A7 k++[32]++AZ true y)++r=AZ true x++(32::(A7 k++32::(AZ true y++r))):=by simp
   rw[e,hs1,AU _ _ (by decide),Vs hk2,hs2,LG,LG];refine⟨T1++[⟨3,A7 k,0,p+(AZ true x).length+1⟩]++T2,by rw[List.map_append,List.map_append,hT1,hT2,List.append_assoc];rfl,?_⟩;congr 2;simp only[List.length_append,List.length_cons,List.length_nil];omega
  cases b with
  |false=>
   have e:AZ false (.bin a x y)=AZ true x++[32]++A7 k++[32]++AZ true y:=by simp[AZ,hkn]
   have e2:BL false (.bin a x y)=BL true x++EW k::BL true y:=by simp[BL,hkn]
   rw[e,e2];exact core r p hr
  |true=>
   have e:AZ true (.bin a x y)=40::((AZ true x++[32]++A7 k++[32]++AZ true y)++[41]):=by simp[AZ,hkn]
   have e2:BL true (.bin a x y)=⟨3,[40],0,0⟩::((BL true x++EW k::BL true y)++[⟨3,[41],0,0⟩]):=by simp[BL,hkn]
   rw[e,e2];obtain⟨T,hT,hs⟩:=core (41::r) (p+1) (.inr (.inr (.inl ⟨_,rfl⟩)));generalize AZ true x++[32]++A7 k++[32]++AZ true y=m at *;rw[show(40::(m++[41]))++r=40::(m++41::r)from by simp,Jz p (.inl rfl),hs,Jz _ (.inr (.inl rfl)),LG,LG];refine⟨[⟨3,[40],0,p⟩]++T++[⟨3,[41],0,p+1+m.length⟩],by rw[List.map_append,List.map_append,hT,List.append_assoc];rfl,?_⟩;congr 2;simp only[List.length_append,List.length_cons,List.length_nil];omega
def bareN (a:Nod):Nod:={a with pl:=0}
def E0:Ex→Ex
 |.leaf a=>.leaf (bareN a)
 |.un a x=>.un (bareN a) (E0 x)
 |.bin a x y=>.bin (bareN a) (E0 x) (E0 y)
def Aj (L:List Tok) (i:Nat) (T:List Tok):Prop:=(L.map Tok.bare).drop i=T
theorem Aj.head {L:List Tok} {i:Nat} {t:Tok} {T:List Tok} (h:Aj L i (t::T)):∃t',L[i]?=some t'∧t'.bare=t∧Aj L (i+1) T:=by
 unfold Aj at *;have h1:(L.map Tok.bare)[i]?=some t:=by
  have:=congrArg (fun l=>l[0]?) h;simpa using this
 rw[List.getElem?_map]at h1;cases hL:L[i]? with
 |none=>rw[hL]at h1;cases h1
 |some t'=>
  rw[hL]at h1;refine⟨t',rfl,by simpa using h1,?_⟩;rw[←List.drop_drop,h];rfl
theorem Aj.app {L:List Tok} {i:Nat} {S T:List Tok} (h:Aj L i (S++T)):Aj L (i+S.length) T:=by
 unfold Aj at *;rw[←List.drop_drop,h,List.drop_left]
theorem Aj.none {L:List Tok} {i:Nat} (h:Aj L i []):L.length≤i:=by
 unfold Aj at h;have:=congrArg List.length h;simp at this;omega
theorem Bo {L:List Tok} {i:Nat} {t:Tok} {T:List Tok} (h:Aj L i (t::T)) (s:List UInt8):isB L i s=((t.kind==1||t.kind==3)&&t.text==s):=by
 obtain⟨t',h1,h2,_⟩:=h.head;subst h2;unfold isB;rw[Int.toNat_natCast,h1];simp[Tok.bare]
theorem Xb {L:List Tok} {i:Nat} (h:Aj L i []) (s:List UInt8):isB L i s=false:=by
 cases hb:isB L i s with
 |false=>rfl
 |true=>have:=Bt hb;have:=h.none;omega
theorem LH {L:List Tok} {b i:Nat} (h:∀op,op<16→En op=b→isB L i (A7 op)=false):A9 L b i=0:=by
 cases hs:(decide (A9 L b i=0))with
 |true=>simpa using hs
 |false=>
  have hne:A9 L b i≠0:=by simpa using hs
  obtain⟨h1,h2,h3⟩:=Hh hne;rw[h _ h1 h2]at h3;cases h3
theorem Ua {L:List Tok} {i b:Nat} {t:Tok} {T:List Tok} (h:Aj L i (t::T)) (hk:t.kind=2):A9 L b i=0:=LH fun _ _ _=>by rw[Bo h,hk];rfl
theorem Ly {l:List UInt8} (h:nameB l=true):∃c m,l=c::m∧Et c=true:=by
 cases l with
 |nil=>exact absurd h (by decide)
 |cons c m=>
  unfold nameB at h;simp at h;exact⟨c,m,rfl,h.1.1.2⟩
theorem Vv:∀op:Fin 16,(match A7 op with|[]=>true|c::_=>!Et c)=true:=by decide
theorem Sm {l:List UInt8} (h:nameB l=true) (op:Nat) (ho:op<16):(l==A7 op)=false:=by
 obtain⟨c,m,rfl,hc⟩:=Ly h;have:=Vv ⟨op,ho⟩;rw[beq_eq_false_iff_ne];intro e;simp only[←e]at this;rw[hc]at this;cases this
theorem Sr {L:List Tok} {i b:Nat} {t:Tok} {T:List Tok} (h:Aj L i (t::T)) (hn:nameB t.text=true):A9 L b i=0:=
 LH fun op ho _=>by rw[Bo h,Sm hn op ho,Bool.and_false]
theorem QAd:∀op:Fin 16,(([41]:List UInt8)==A7 op)=false:=by decide
theorem Qq {L:List Tok} {i b:Nat} {T:List Tok} (h:Aj L i (⟨3,[41],0,0⟩::T)):A9 L b i=0:=
 LH fun op ho _=>by rw[Bo h,QAd ⟨op,ho⟩,Bool.and_false]
theorem Yc:∀(k:Fin 16) (b:Fin 7),BG (k:Nat)=some 2→1≤b.1→b.1≤5→((List.range 16).find? (fun op=>En op==(b.1:Int)&&((((3:Int)==1)||((3:Int)==3))&&A7 k==A7 op))).getD 0=if En k=(b.1:Int)then(k:Nat)else 0:=by decide+kernel
theorem OQ {L:List Tok} {i b k:Nat} {T:List Tok} (h:Aj L i (EW k::T)) (hk:BG (k:Int)=some 2) (hb:1≤b) (hb2:b≤5):A9 L b i=if En k=(b:Int)then k else 0:=by
 have hop:=GQ hk;have:=Yc ⟨k,by omega⟩ ⟨b,by omega⟩ hk hb hb2;unfold A9;rw[←this];congr 2;funext op;rw[Bo h];rfl
theorem Ub {L:List Tok} {i k:Nat} {T:List Tok} (h:Aj L i (EW k::T)) (hk:k=3∨k=4):A9 L 6 i=k∧isB L i [40]=false:=by
 refine⟨?_,by rw[Bo h];rcases hk with rfl|rfl<;>decide⟩;have e:(fun op=>En op==((6:Nat):Int)&&isB L i (A7 op))=fun op=>En op==((6:Nat):Int)&&((((3:Int)==1)||((3:Int)==3))&&A7 k==A7 op):=by
  funext op;rw[Bo h];rfl
 unfold A9;rw[e];rcases hk with rfl|rfl<;>decide+kernel
theorem J0 {L:List Tok} {f i d tq:Nat} {x:Ex} (h:BX L f i d=some (.ok x tq)):∀(n b:Nat),b+n=6→1≤b→(∀c,b≤c→c≤5→A9 L c tq=0)→∃f',Ax L f' b i d=some (.ok x tq):=by
 intro n
 induction n with
 |zero=>
  intro b hb _ _;obtain rfl:b=6:=by omega
  exact⟨f+1,by rw[Ax,if_pos rfl];exact h⟩
 |succ n ih=>
  intro b hb h1 hs;obtain⟨f',hf'⟩:=ih (b+1) (by omega) (by omega) (fun c hc hc2=>hs c (by omega) hc2);cases f' with
  |zero=>simp[Ax]at hf'
  |succ f'=>exact⟨f'+1+1,by rw[Ax,if_neg (by omega),hf'];simp only;rw[ED,if_pos (hs b (Nat.le_refl _) (by omega))]⟩
theorem QAe {L:List Tok} {f i d tq b:Nat} {x:Ex} (h:Ax L f (b+1) i d=some (.ok x tq)) (hb:b≤5) (hs:A9 L b tq=0):∃f',Ax L f' b i d=some (.ok x tq):=by
 cases f with
 |zero=>simp[Ax]at h
 |succ f=>exact⟨f+1+1,by rw[Ax,if_neg (by omega),h];simp only;rw[ED,if_pos hs]⟩
theorem Vw {L:List Tok} {f i d tq:Nat} {x:Ex}:∀(n b:Nat),Ax L f (b+n) i d=some (.ok x tq)→b+n≤6→(∀c,c≤5→A9 L c tq=0)→∃f',Ax L f' b i d=some (.ok x tq):=by
 intro n
 induction n generalizing f with
 |zero=>intro b h _ _;exact⟨f,h⟩
 |succ n ih=>
  intro b h hb hs;obtain⟨f',hf'⟩:=QAe (b:=b+n) h (by omega) (hs _ (by omega));exact ih b hf' (by omega) hs
theorem Oe {L:List Tok} {f i d tq:Nat} {x:Ex} (h1:isB L i [40]=true) (hd:d≠12) (h:Ax L f 1 (i+1) (d+1)=some (.ok x tq)) (h2:isB L tq [41]=true):BX L (f+1) i d=some (.ok x (tq+1)):=by
 rw[BX,if_pos h1,if_neg hd,h];simp only;rw[if_pos h2]
theorem Vx:∀k:Fin 16,BG (k:Nat)=some 2→∃b:Fin 6,1≤b.1∧En k=(b.1:Int):=by decide
theorem Uc {L:List Tok} {i d k t1 t2:Nat} {x y:Ex} {f g:Nat} (hk:BG (k:Int)=some 2) {T:List Tok} (h1:BX L f i d=some (.ok x t1)) (hs:Aj L t1 (EW k::T)) (h2:BX L g (t1+1) d=some (.ok y t2)) (hn:∀c,c≤5→A9 L c t2=0):
  ∃f',Ax L f' 1 i d=some (.ok (.bin ⟨k,0,[],plAt L t1⟩ x y) t2):=by
 have hop:=GQ hk;obtain⟨b,hb1,hb⟩:=Vx ⟨k,by omega⟩ hk;have hb5:b.1≤5:=by omega
 simp only at hb;obtain⟨f1,hf1⟩:=J0 h1 (5-b.1) (b.1+1) (by omega) (by omega) (fun c hc hc2=>by
  rw[OQ hs hk (by omega) hc2,if_neg];intro e;rw[hb]at e;omega)
 obtain⟨f2,hf2⟩:=J0 h2 (5-b.1) (b.1+1) (by omega) (by omega) (fun c _ hc2=>hn c hc2);have hsg:A9 L b.1 t1=k:=by rw[OQ hs hk hb1 hb5,if_pos hb]
 have hsn:signN L b.1 t1=⟨k,0,[],plAt L t1⟩:=by unfold signN;rw[hsg]
 have hk0:A9 L b.1 t1≠0:=by rw[hsg];omega
 have hl:∃m,ED L m b.1 x t1 d=some (.ok (.bin ⟨k,0,[],plAt L t1⟩ x y) t2):=by
  cases f2 with
  |zero=>simp[Ax]at hf2
  |succ f2=>
   refine⟨f2+1+1,?_⟩;rw[ED,if_neg hk0,hf2];simp only;rw[hsn];split
   ·rfl
   ·rw[ED,if_pos (hn _ hb5)]
 obtain⟨m,hm⟩:=hl;have hchain:∃f',Ax L f' b.1 i d=some (.ok (.bin ⟨k,0,[],plAt L t1⟩ x y) t2):=by
  refine⟨max f1 m+1,?_⟩;rw[Ax,if_neg (by omega),Lr (Nat.le_max_left f1 m) hf1];simp only;have:∀g,m≤g→ED L g b.1 x t1 d=some (.ok (.bin ⟨k,0,[],plAt L t1⟩ x y) t2):=by
   intro g hg
   induction g with
   |zero=>
    obtain rfl:m=0:=by omega
    exact hm
   |succ g ih=>
    by_cases e:m=g+1
    ·subst e;exact hm
    ·exact(UW L g).2.1 _ _ _ _ _ (ih (by omega))
  exact this _ (Nat.le_max_right f1 m)
 obtain⟨f',hf'⟩:=hchain;exact Vw (b.1-1) 1 (by rw[show 1+(b.1-1)=b.1 from by omega];exact hf') (by omega) hn
theorem Np {a:Nod} {k:Nat} (hk:a.op=k) (h:a.n=0∧a.name=[]) (q:Int):bareN ⟨k,0,[],q⟩=bareN a:=by
 obtain⟨op,n,name,pl⟩:=a;simp only at hk h;obtain⟨rfl,rfl⟩:=h;subst hk;rfl
theorem IG:∀(x:Ex) (L:List Tok) (i d:Nat) (R:List Tok),JY x→Aj L i (BL true x++R)→d+x.deep≤13→∃x' f,E0 x'=E0 x∧BX L f i d=some (.ok x' (i+(BL true x).length)):=by
 intro x
 induction x with
 |leaf a=>
  intro L i d R h hF hd;have hn:CN a=true:=Ij h;rcases Sl h.1 with h1|h2
  ·obtain⟨b1,b2,b3⟩:=PU hn h1;have e:BL true (.leaf a)=[⟨2,Lib.itoa a.n,a.n,0⟩]:=by simp[BL,h1]
   rw[e]at hF⊢;obtain⟨t',g1,g2,_⟩:=Aj.head hF;refine⟨.leaf ⟨1,a.n,[],t'.pl⟩,1,?_,?_⟩
   ·obtain⟨op,n,name,pl⟩:=a;simp only at h1 b3;subst h1;subst b3;rfl
   ·rw[BX,if_neg (by rw[Bo hF];simp),if_pos (Ua hF rfl)];have hk:t'.kind=2:=by have:=congrArg Tok.kind g2;exact this
    have hv:t'.n=a.n:=by have:=congrArg Tok.n g2;exact this
    unfold Ff;rw[g1];simp only;rw[if_pos hk,hv];rfl
  ·obtain⟨b1,b2⟩:=Nn hn h2;have e:BL true (.leaf a)=[⟨1,a.name,0,0⟩]:=by simp[BL,h2]
   rw[e]at hF⊢;obtain⟨t',g1,g2,_⟩:=Aj.head hF;refine⟨.leaf ⟨2,0,a.name,t'.pl⟩,1,?_,?_⟩
   ·obtain⟨op,n,name,pl⟩:=a;simp only at h2 b2;subst h2;subst b2;rfl
   ·have h40:(a.name==[40])=false:=by
     obtain⟨c,m,hc,hl⟩:=Ly b1;rw[beq_eq_false_iff_ne,hc];intro e2;simp at e2;rw[e2.1]at hl;exact absurd hl (by decide)
    rw[BX,if_neg (by rw[Bo hF];simp only;rw[h40];simp),if_pos (Sr hF b1)];have hk:t'.kind=1:=by have:=congrArg Tok.kind g2;exact this
    have hv:t'.text=a.name:=by have:=congrArg Tok.text g2;exact this
    unfold Ff;rw[g1];simp only;rw[if_neg (by omega),if_pos ⟨hk,by rw[hv];exact b1⟩,hv];rfl
 |un a x ih=>
  intro L i d R h hF hd;have hn:CN a=true:=Ij h;have h34:=QAc h.1.1;obtain⟨k,hk⟩:∃k:Nat,a.op=k:=⟨a.op.toNat,by omega⟩
  have hkn:a.op.toNat=k:=by omega
  have e:BL true (.un a x)=EW k::BL true x:=by simp[BL,hkn]
  rw[e,List.cons_append]at hF;obtain⟨g1,g2⟩:=Ub hF (by omega);obtain⟨t',_,_,hF2⟩:=Aj.head hF;simp only[Ex.deep]at hd;obtain⟨x',f,hx',hf⟩:=ih L (i+1) (d+1) R (Oh h) hF2 (by omega);have hp:=MN x;refine⟨.un ⟨k,0,[],plAt L i⟩ x',f+1,?_,?_⟩
  ·simp only[E0];rw[hx',Np hk (PV hn (by omega) (by omega))]
  ·rw[BX,if_neg (by rw[g2];simp),if_neg (by rw[g1];omega),if_neg (by omega),hf];simp only;unfold signN;rw[g1,e,List.length_cons,show i+1+(BL true x).length=i+((BL true x).length+1)from by omega]
 |bin a x y ih1 ih2=>
  intro L i d R h hF hd;have hn:CN a=true:=Ij h;obtain⟨gx,gy⟩:=Kp h;have hop:=GQ h.1.1;obtain⟨k,hk⟩:∃k:Nat,a.op=k:=⟨a.op.toNat,by omega⟩
  have hk2:BG (k:Int)=some 2:=by rw[←hk];exact h.1.1
  have hkn:a.op.toNat=k:=by omega
  have e:BL true (.bin a x y)=⟨3,[40],0,0⟩::(BL true x++EW k::BL true y)++[⟨3,[41],0,0⟩]:=by simp[BL,hkn]
  have hF':Aj L i (⟨3,[40],0,0⟩::(BL true x++(EW k::(BL true y++(⟨3,[41],0,0⟩::R))))):=by rw[e]at hF;simpa using hF
  have ho:isB L i [40]=true:=by rw[Bo hF'];rfl
  obtain⟨t',_,_,hF1⟩:=Aj.head hF';simp only[Ex.deep]at hd;have hp:=MN x;obtain⟨x',f,hx',hf⟩:=ih1 L (i+1) (d+1) _ gx hF1 (by omega);have hF2:=hF1.app;obtain⟨t2,_,_,hF3⟩:=Aj.head hF2;obtain⟨y',g,hy',hg⟩:=ih2 L (i+1+(BL true x).length+1) (d+1) _ gy hF3 (by omega);have hF4:=hF3.app;obtain⟨f',hf'⟩:=Uc hk2 hf hF2 hg (fun c _=>Qq hF4);refine⟨.bin ⟨k,0,[],plAt L (i+1+(BL true x).length)⟩ x' y',f'+1,?_,?_⟩
  ·simp only[E0];rw[hx',hy',Np hk (PV hn (by
    intro e1;rw[e1]at hk;have:k=1:=by omega
    subst this;exact absurd hk2 (by decide)) (by
    intro e1;rw[e1]at hk;have:k=2:=by omega
    subst this;exact absurd hk2 (by decide)))]
  ·rw[Oe ho (by omega) hf' (by rw[Bo hF4];rfl),e];congr 2;simp only[List.length_append,List.length_cons,List.length_nil];omega
end Go.Proofs.YthfkpalfopdmhaaGreatDoor
namespace Go.Proofs.YthfkpalfopdmhaaGreatDoor
open Go.RowKit
end Go.Proofs.YthfkpalfopdmhaaGreatDoor
namespace Go.Proofs.YthfkpalfopdmhaaGreatDoor
open Go Go.RowKit
def Oc (K:Act→World→Prop) (Q:Exit→Act→World→Prop):Exit→Act→World→Prop
 |.normal,a,w=>K a w
 |.ret,a,w=>Q .ret a w
 |.exit id,a,w=>Q (.exit id) a w
 |.goto t,a,w=>Q (.goto t) a w
 |.panic c,a,w=>Q (.panic c) a w
 |.outgrown,a,w=>Q .outgrown a w
section
variable {P:Program} {md:Region.Mode} {l:List Oper} {Q:Exit→Act→World→Prop}
theorem QCa {o:Oper} {a:Act} {w:World} {K next:Act→World→Prop} (h:o.wp P a w next (Oc K Q)):o.wp P a w next Q:=by
 unfold Oper.wp at *;generalize(execOp a.eval o).run P w=r at *;cases r with
 |ok n w'=>cases n<;>first|exact h|exact Calls.mono h (fun e w h=>by cases e<;>exact h)
 |halt x w'=>cases x<;>exact h
theorem Ql {ops:Array Oper} {listed:Array Bool} {k:Nat} (h:k∈Region.ready md ops listed):k<ops.size:=by
 unfold Region.ready at h;exact List.mem_range.1 (List.mem_filter.1 h).1
theorem Ox {k fuel:Nat} {listed:Array Bool} {a:Act} {w:World} (hk:k<l.toArray.size) (m:Nat) {K:Act→World→Prop}
  (h:wpList P l.toArray (Oc K Q) ((l.drop k).take (m+1)) a w) (hK:∀a w,wpList P l.toArray (Oc K Q) ((l.drop (k+1)).take m) a w→wpAny P md l.toArray Q fuel (listed.setIfInBounds k true) a w):
  wpOp P l.toArray Q k (wpAny P md l.toArray Q fuel (listed.setIfInBounds k true)) a w:=by
 have hk':k<l.length:=by simpa using hk
 rw[List.drop_eq_getElem_cons hk',List.take_succ_cons]at h;unfold wpOp;rw[show l.toArray[k]?=some l[k]from by simp[hk']];simp only;unfold wpList at h;split
 ·rename_i hw
  rw[if_pos hw]at h;rcases h with h|⟨h1,h2⟩
  ·exact .inl (Oper.wp_mono hK (QCa h))
  ·exact .inr ⟨h1,h2⟩
 ·rename_i hw
  rw[if_neg hw]at h;exact hK _ _ h
def Up (n c:Nat) (ex:List Nat):Array Bool:=((List.range n).map fun i=>decide (i<c)||ex.contains i).toArray
theorem Va (n c:Nat) (ex:List Nat) (i:Nat) (d:Bool):(Up n c ex).getD i d=if i<n then(decide (i<c)||ex.contains i)else d:=by
 by_cases h:i<n
 ·simp[Up,h]
 ·simp[Up,h]
theorem XS {n c k:Nat} {ex:List Nat} (hk:k<n):(Up n c ex).setIfInBounds k true=Up n c (k::ex):=by
 apply Array.ext
 ·simp[Up]
 ·intro i h1 h2;have hi:i<n:=by simpa[Up]using h2
  by_cases e:i=k
  ·subst e;simp[Up]
  ·rw[Array.getElem_setIfInBounds_ne (by simpa[Up]using hi) (fun h=>e h.symm)];simp[Up,e]
theorem QEI {n c:Nat} (hc:c<n):(Up n c []).setIfInBounds c true=Up n (c+1) []:=by
 apply Array.ext
 ·simp[Up]
 ·intro i h1 h2;have hi:i<n:=by simpa[Up]using h2
  by_cases e:i=c
  ·subst e;simp[Up]
  ·rw[Array.getElem_setIfInBounds_ne (by simpa[Up]using hi) (fun h=>e h.symm)];simp[Up];omega
theorem QEJ (n:Nat):Array.replicate n false=Up n 0 []:=by
 apply Array.ext
 ·simp[Up]
 ·intro i h1 h2;simp[Up]
theorem filter_one {p:Nat→Bool} {k:Nat}:∀n,k<n→(∀i,i<n→p i=decide (i=k))→(List.range n).filter p=[k]:=by
 intro n
 induction n with
 |zero=>intro h;omega
 |succ n ih=>
  intro hk hp;rw[List.range_succ,List.filter_append];have hn:=hp n (by omega);by_cases e:n=k
  ·subst e;have:(List.range n).filter p=[]:=List.filter_eq_nil_iff.2 (fun i hi=>by
    rw[hp i (by have:=List.mem_range.1 hi;omega)];have:=List.mem_range.1 hi;simp;omega)
   rw[this];simp[hn]
  ·rw[ih (by omega) (fun i hi=>hp i (by omega))];simp[hn,e]
def preB (md:Region.Mode) (ops:Array Oper) (m:Nat):Bool:=
 (List.range ops.size).all fun j=>match ops[j]? with
  |some o=>(decide (m≤j)||o.after.all (fun e=>!Region.binds md e||decide (e.on<j)))&&(decide (j=0)||o.after.any (fun e=>Region.binds md e&&decide (min (j-1) (m-1)≤e.on)))
  |none=>false
theorem QAD {ops:Array Oper} {m k:Nat} (h:preB md ops m=true) (hm:m≤ops.size) (hk:k<m):Region.ready md ops (Up ops.size k [])=[k]:=by
 unfold Region.ready;refine filter_one _ (by omega) (fun i hi=>?_);have hj:=List.all_eq_true.1 h i (List.mem_range.2 hi);have ho:ops[i]?=some ops[i]:=by simp[hi]
 rw[ho]at hj⊢;simp only[Bool.and_eq_true,Bool.or_eq_true,decide_eq_true_eq]at hj;obtain⟨h1,h2⟩:=hj;rw[Va,if_pos hi];simp only[Option.map_some,Option.getD_some,List.contains_nil,Bool.or_false];rcases Nat.lt_trichotomy i k with hlt|heq|hgt
 ·have:decide (i<k)=true:=by simpa using hlt
  have e:¬i=k:=by omega
  simp[this,e]
 ·subst heq;have hall:ops[i].after.all (fun e=>!Region.binds md e||(Up ops.size i []).getD e.on false)=true:=by
   rcases h1 with h1|h1
   ·omega
   ·rw[Array.all_eq_true]at h1⊢;intro q hq;have:=h1 q hq;simp only[Bool.or_eq_true,Bool.not_eq_true',decide_eq_true_eq]at this⊢;rcases this with h|h
    ·exact .inl h
    ·right;rw[Va,if_pos (by omega)];simp[h]
  rw[hall];simp
 ·have hno:ops[i].after.all (fun e=>!Region.binds md e||(Up ops.size k []).getD e.on false)=false:=by
   rcases h2 with h2|h2
   ·omega
   ·rw[Array.any_eq_true]at h2;obtain⟨q,hq,h2⟩:=h2;simp only[Bool.and_eq_true,decide_eq_true_eq]at h2;rw[Array.all_eq_false];refine⟨q,hq,?_⟩;rw[h2.1,Va];have:¬ops[i].after[q].on<k:=by have:=h2.2;omega
    simp[this]
  rw[hno];have e:¬i=k:=by omega
  simp[e]
theorem QEK (n:Nat):∀(t c fuel:Nat) (a:Act) (w:World),(∀k,c≤k→k<c+t→Region.ready md l.toArray (Up n k [])=[k])→c+t≤n→l.toArray.size=n→
  wpList P l.toArray (Oc (wpAny P md l.toArray Q fuel (Up n (c+t) [])) Q) ((l.drop c).take t) a w→wpAny P md l.toArray Q (t+fuel) (Up n c []) a w:=by
 intro t
 induction t with
 |zero=>intro c fuel a w _ _ _ h;rw[List.take_zero]at h;rw[Nat.zero_add];exact h
 |succ t ih=>
  intro c fuel a w hr hn hs h;have hrc:=hr c (Nat.le_refl _) (by omega);rw[show t+1+fuel=(t+fuel)+1 from by omega];refine⟨fun h0=>(by rw[hrc]at h0;cases h0),fun i hi=>?_⟩;have hlt:=Ql hi;rw[hrc]at hi;obtain rfl:=List.mem_singleton.1 hi;refine Ox hlt t h (fun a' w' h'=>?_);rw[QEI (by omega)];exact ih (i+1) fuel a' w' (fun k h1 h2=>hr k (by omega) (by omega)) (by omega) hs (by rw[show i+1+t=i+(t+1)from by omega];exact h')
theorem Qw {id:Nat} {a:Act} {w:World} (m fuel:Nat) (hm:P.follows .mixedOrders=true) (hn:l.length=m+fuel) (hB:preB .any l.toArray m=true)
  (h:wpList P l.toArray (Oc (wpAny P .any l.toArray Q fuel (Up (m+fuel) m [])) Q) (l.take m) a w.drew):(Code.region id l.toArray true).wp P Q a w:=by
 have hsz:l.toArray.size=m+fuel:=by simpa using hn
 refine wp_region_any hm ?_;rw[hsz,QEJ];refine QEK (md:=.any) (m+fuel) m 0 fuel _ w.drew (fun k _ hk=>?_) (by omega) hsz (by rw[List.drop_zero,Nat.zero_add];exact h);have:=QAD hB (by omega) (k:=k) (by omega);rw[hsz]at this;exact this
def OK (md:Region.Mode) (l:List Oper):List (List Nat):=l.map fun o=>(o.after.toList.filter (fun e=>Region.binds md e)).map (fun e=>e.on)
def Qm (E:List (List Nat)) (n c:Nat) (ex:List Nat):List Nat:=(List.range n).filter fun i=>!(decide (i<c)||ex.contains i)&&(match E[i]? with
 |some es=>es.all (fun k=>decide (k<n)&&(decide (k<c)||ex.contains k))
 |none=>false)
theorem UF {E:List (List Nat)} {n c:Nat} {ex:List Nat} (hE:OK md l=E) (hn:l.length=n):Region.ready md l.toArray (Up n c ex)=Qm E n c ex:=by
 subst hE;unfold Region.ready Qm;have hs:l.toArray.size=n:=by simpa using hn
 rw[hs];refine List.filter_congr (fun i hi=>?_);have hi':i<n:=List.mem_range.1 hi;have hl:i<l.length:=by omega
 rw[Va,if_pos hi',show l.toArray[i]?=some l[i]from by simp[hl]];have hE:(OK md l)[i]?=some ((l[i].after.toList.filter (fun e=>Region.binds md e)).map (fun e=>e.on)):=by
  unfold OK;rw[List.getElem?_map,List.getElem?_eq_getElem hl];rfl
 rw[hE];simp only[Option.map_some,Option.getD_some];congr 1;rw[←Array.all_toList,List.all_map,List.all_filter];refine List.all_congr rfl (fun e=>?_);rw[Va];by_cases h:e.on<n
 ·simp[h]
 ·simp[h]
def QGc (E:List (List Nat)) (n c:Nat):Nat→Nat→List Nat→Bool
 |_,0,_=>true
 |k,m+1,ex=>(Qm E n c ex==[k])&&decide (k<n)&&QGc E n c (k+1) m (k::ex)
def QHF:Nat→Nat→List Nat→List Nat
 |_,0,ex=>ex
 |k,m+1,ex=>QHF (k+1) m (k::ex)
theorem Af {E:List (List Nat)} {n c:Nat} (hE:OK md l=E) (hn:l.length=n):∀(m k fuel:Nat) (ex:List Nat) (a:Act) (w:World),QGc E n c k m ex=true→
  wpList P l.toArray (Oc (wpAny P md l.toArray Q fuel (Up n c (QHF k m ex))) Q) ((l.drop k).take m) a w→wpAny P md l.toArray Q (m+fuel) (Up n c ex) a w:=by
 intro m
 induction m with
 |zero=>intro k fuel ex a w _ h;rw[List.take_zero]at h;rw[Nat.zero_add];exact h
 |succ m ih=>
  intro k fuel ex a w hB h;unfold QGc at hB;rw[Bool.and_eq_true,Bool.and_eq_true,beq_iff_eq,decide_eq_true_eq]at hB;obtain⟨⟨hr,hkn⟩,hB⟩:=hB;rw[←UF hE hn]at hr;rw[show m+1+fuel=(m+fuel)+1 from by omega];refine⟨fun h0=>(by rw[hr]at h0;cases h0),fun i hi=>?_⟩;have hlt:=Ql hi;rw[hr]at hi;obtain rfl:=List.mem_singleton.1 hi;refine Ox hlt m h (fun a' w' h'=>?_);rw[XS hkn];exact ih (i+1) fuel _ a' w' hB h'
theorem EA {E:List (List Nat)} {n c i j fuel:Nat} {ex:List Nat} {a:Act} {w:World} (hE:OK md l=E) (hn:l.length=n) (hr:(Qm E n c ex==[i,j])=true) (hi:i<n) (hj:j<n)
  (h1:wpList P l.toArray (Oc (wpAny P md l.toArray Q fuel (Up n c (i::ex))) Q) ((l.drop i).take 1) a w)
  (h2:wpList P l.toArray (Oc (wpAny P md l.toArray Q fuel (Up n c (j::ex))) Q) ((l.drop j).take 1) a w):wpAny P md l.toArray Q (fuel+1) (Up n c ex) a w:=by
 rw[beq_iff_eq,←UF hE hn]at hr;refine⟨fun h0=>(by rw[hr]at h0;cases h0),fun k hk=>?_⟩;have hlt:=Ql hk;rw[hr]at hk;rcases List.mem_cons.1 hk with rfl|hk
 ·exact Ox hlt 0 h1 (fun a' w' h'=>by rw[List.take_zero]at h';rw[XS hi];exact h')
 ·obtain rfl:=List.mem_singleton.1 hk;exact Ox hlt 0 h2 (fun a' w' h'=>by rw[List.take_zero]at h';rw[XS hj];exact h')
theorem Dk {E:List (List Nat)} {n c fuel:Nat} {ex:List Nat} {a:Act} {w:World} (hE:OK md l=E) (hn:l.length=n) (hr:(Qm E n c ex==[])=true) (h:Q .normal a w):wpAny P md l.toArray Q fuel (Up n c ex) a w:=by
 rw[beq_iff_eq,←UF hE hn]at hr;cases fuel with
 |zero=>exact⟨hr,h⟩
 |succ f=>exact⟨fun _=>h,fun i hi=>by rw[hr]at hi;cases hi⟩
end
end Go.Proofs.YthfkpalfopdmhaaGreatDoor
