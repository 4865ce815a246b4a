/- Texts of the walk, packed. -/
import Derived.Test.YthfkpalfopdmhaaGreatDoorW12
import Derived.Test.YthfkpalfopdmhaaGreatDoorW04
import Derived.Test.YthfkpalfopdmhaaGreatDoorW07
import Derived.Test.YthfkpalfopdmhaaGreatDoorW06
import Derived.Test.YthfkpalfopdmhaaGreatDoorW05
import Derived.RangeFuncFrom
import Derived.RangeFuncCalls
import Derived.RangeFuncLeaves
import Derived.Test.YthfkpalfopdmhaaGreatDoorW02
import Derived.Test.YthfkpalfopdmhaaGreatDoorW09
import Derived.Lib.AppendIntMem
import Derived.Test.YthfkpalfopdmhaaGreatDoorW00
namespace Go.Proofs.YthfkpalfopdmhaaGreatDoor
open Go.RowKit
def Ae {α:Type} (q:α->α->Bool):List α->List α->Bool
 |[],[]=>true
 |a::l,b::m=>q a b&&Ae q l m
 |_,_=>false
section
variable {α:Type} {q:α->α->Bool}
theorem CZ:∀{L M:List α},L.length≠M.length->Ae q L M=false
 |[],[],h=>absurd rfl h
 |[],b::m,_=>rfl
 |a::l,[],_=>rfl
 |a::l,b::m,h=>by
  unfold Ae;rw[CZ (L:=l) (M:=m) (fun e=>h (by simp[e]))];simp
theorem Bz:∀{L M:List α} {k:Nat} {a b:α},L[k]?=some a->M[k]?=some b->Ae q (L.take (k+1)) (M.take (k+1))=(Ae q (L.take k) (M.take k)&&q a b)
 |[],M,k,a,b,h,_=>by simp at h
 |x::l,[],k,a,b,_,h=>by simp at h
 |x::l,y::m,0,a,b,h,h2=>by
  simp at h h2;subst h;subst h2;simp[Ae]
 |x::l,y::m,k+1,a,b,h,h2=>by
  have ih:=Bz (L:=l) (M:=m) (k:=k) (a:=a) (b:=b) (by simpa using h) (by simpa using h2);rw[List.take_succ_cons,List.take_succ_cons,List.take_succ_cons,List.take_succ_cons];unfold Ae;rw[ih,Bool.and_assoc]
theorem DD:∀{L M:List α} {k:Nat} {a b:α},L[k]?=some a->M[k]?=some b->q a b=false->Ae q L M=false
 |[],M,k,a,b,h,_,_=>by simp at h
 |x::l,[],k,a,b,_,h,_=>by simp at h
 |x::l,y::m,0,a,b,h,h2,he=>by
  simp at h h2;subst h;subst h2;unfold Ae;rw[he];rfl
 |x::l,y::m,k+1,a,b,h,h2,he=>by
  unfold Ae;rw[DD (L:=l) (M:=m) (k:=k) (by simpa using h) (by simpa using h2) he];simp
theorem Cb {L M:List α} {k:Nat} (hk:L.length<=k) (hl:L.length=M.length) (h:Ae q (L.take k) (M.take k)=true):Ae q L M=true:=by
 rwa [List.take_of_length_le hk,List.take_of_length_le (by omega)]at h
end
def En (p:Bool) (a b:Nod):Bool:=a.op==b.op&&a.n==b.n&&a.name==b.name&&(!p||a.pl==b.pl)
def E9 (p:Bool) (L M:List Nod):Bool:=Ae (En p) L M
def Ot (L M:List (List UInt8)):Bool:=Ae (fun a b=>a==b) L M
set_option maxRecDepth 100000 in
set_option maxHeartbeats 2000000 in
theorem Rt (a b:Nod) (w:World):Calls Tryz.prog 177 #[.agg #[.int .i64 a.op,.int .i64 a.n,.string ⟨a.name.toArray⟩,.int .i64 a.pl],.agg #[.int .i64 b.op,.int .i64 b.n,.string ⟨b.name.toArray⟩,.int .i64 b.pl]] w (AK (En false a b) w):=by
 go_enter Tryz.func177,Tryz.ntmps177;go_wp2_with fail
 all_goals
  go_ret;refine⟨AH ?_,?_⟩
  ·simp_all [En]
  ·exact((Below.refl _ _).alloc (Nat.le_refl _) _).alloc (by simp) _
set_option maxRecDepth 100000 in
set_option maxHeartbeats 4000000 in
theorem RX (v1 v2:Value) (L M:List Nod) (w:World) (h1:Ax w v1 L) (h2:Ax w v2 M) (hl:L.length<=10000):
  Calls Tryz.prog 176 #[v1,v2,.func (.func 177) #[] #[]] w (AK (E9 false L M) w):=by
 have HR1:=AA h1;have HR2:=AA h2;obtain⟨A,c,rfl,hc,hm1,hr1⟩:=h1;obtain⟨A',c',rfl,hc',hm2,hr2⟩:=h2;clear hr1 hr2;by_cases hL:L.length=M.length
 ·rw[<-hL]at HR2 hc'⊢;have HL:=AA hL;have HM:=AA (show∀k,k<L.length->k<M.length by rw[hL];exact fun _ h=>h);clear hL;go_enter Tryz.func176,Tryz.ntmps176;go_wp2_with fail
  go_loopw [17] (fun i wr=>∃k:Nat,k<=L.length/\i=.int .i64 k/\Below w.heap.size w wr/\Ae (En false) (L.take k) (M.take k)=true) (fun i _=>L.length-(intOf i).toNat)
  case atStart=>exact⟨0,Nat.zero_le _,rfl,Below.refl _ _,rfl⟩
  case round=>
   obtain⟨k,hk,rfl,hbel,hs⟩:=hrel;have HS:=AA hs;have HB:=AA hbel;have hsz:=hbel.size;clear hs;by_cases hlt:k<L.length
   ·have hkm:=HM.out k hlt;have ha:L[k]?=some L[k]:=List.getElem?_eq_getElem hlt;have hb:M[k]?=some (M[k]'hkm):=List.getElem?_eq_getElem hkm
    generalize L[k]=a at *;generalize M[k]'hkm=b at *
    obtain⟨A2,c2,hv,_,_,hr⟩:=HR1.out.on hbel;obtain⟨rfl,_,rfl⟩:A=A2/\True/\c=c2:=by simpa using hv
    obtain⟨A2',c2',hv',_,_,hr'⟩:=HR2.out.on hbel;obtain⟨rfl,rfl⟩:A'=A2'/\c'=c2':=by simp only[Value.slice.injEq]at hv';exact⟨hv'.1,hv'.2.2⟩
    obtain⟨g,o,rfl,hg,x0,x1,x2,x3⟩:=hr k a ha;obtain⟨g',o',rfl,hg',y0,y1,y2,y3⟩:=hr' k b hb;have HN:=AA (fun h=>DD (q:=En false) ha hb h);have HY:=AA (Bz (q:=En false) ha hb);clear ha hb hr hr' hv hv' hbel;cases e1:En false a b with
    |false=>
     have HE:=AA e1;clear e1;go_wp2_with fail
     refine(Rt a b _).mono ?_;rw[HE.out];rintro e w1 ⟨rfl,hb⟩;have HB2:=AA (((HB.out.alloc hsz _).alloc (by simp;omega) _).trans (hb.mono (by simp;omega)));clear hb;go_wp2_with fail
     go_ret;exact⟨AH (HN.out HE.out).symm,HB2.out⟩
    |true=>
     have HE:=AA e1;clear e1;go_wp2_with fail
     refine(Rt a b _).mono ?_;rw[HE.out];rintro e w1 ⟨rfl,hb⟩;have HB2:=AA (((HB.out.alloc hsz _).alloc (by simp;omega) _).trans (hb.mono (by simp;omega)));clear hb;go_wp2_with fail
     go_roundw;case rel=>exact⟨k+1,by omega,by go_num,HB2.out,by rw[HY.out,HS.out,HE.out];rfl⟩
     case measure=>simp[intOf];omega
   ·have HQ:=AA (Cb (by omega) HL.out HS.out);clear hbel;go_wp2_with fail
    go_ret;exact⟨AH HQ.out.symm,HB.out⟩
 ·have HQ:=AA (CZ (q:=En false) hL);have hd:((L.length:Int) != (M.length:Int))=true:=by simp;omega
  clear hL;go_enter Tryz.func176,Tryz.ntmps176;go_wp2_with fail
  go_ret;exact⟨AH HQ.out.symm,Below.refl _ _⟩
theorem QC (v1 v2:Value) (L M:List Nod) (w:World) (h1:Ax w v1 L) (h2:Ax w v2 M) (hl:L.length<=10000):Calls Tryz.prog 127 #[v1,v2] w (AK (E9 false L M) w):=by
 have HR1:=AA h1;have HR2:=AA h2;clear h1 h2;go_enter Tryz.func127,Tryz.ntmps127;go_wp2_with fail
 refine(RX v1 v2 L M _ HR1.out HR2.out hl).mono ?_;rintro e w1 ⟨rfl,hb⟩;go_wp2_with fail
 go_ret;exact⟨rfl,hb⟩
end Go.Proofs.YthfkpalfopdmhaaGreatDoor
namespace Go.Proofs.YthfkpalfopdmhaaGreatDoor
open Go
structure Stm where
 kind:Int
 reg:List UInt8
 name:List UInt8
 e:List Nod
 f:List Nod
 n:Int
 body:Int
 els:Int
 pl:Int
deriving DecidableEq
inductive Bk where
 |nil
 |cons (s:Stm) (b e r:Bk)
deriving DecidableEq
def Bk.count:Bk->Nat
 |.nil=>0
 |.cons _ b e r=>b.count+e.count+r.count+1
def Bk.flat:Bk->List Stm
 |.nil=>[]
 |.cons s b e r=>s::(b.flat++(e.flat++r.flat))
def Hq (k:Int):Prop:=k=11\/k=12
instance (k:Int):Decidable (Hq k):=inferInstanceAs (Decidable (_\/_))
def Bk.deep:Bk->Nat
 |.nil=>0
 |.cons s b e r=>max (if Hq s.kind then max (b.deep+1) (e.deep+1)else 0) r.deep
def Bk.fit:Bk->Prop
 |.nil=>True
 |.cons s b e r=>s.body=b.count/\s.els=e.count/\(0<b.count->Hq s.kind)/\(0<e.count->s.kind=11)/\b.fit/\e.fit/\r.fit
def Bk.brk:Nat->Bk->Bool
 |_,.nil=>true
 |l,.cons s b e r=>(!decide (s.kind=13)||decide (0<l))&&Bk.brk (if s.kind=12 then l+1 else l) b&&Bk.brk (if s.kind=12 then l+1 else l) e&&Bk.brk l r
theorem BV (b:Bk):b.flat.length=b.count:=by
 induction b with
 |nil=>rfl
 |cons s b e r h1 h2 h3=>simp only[Bk.flat,Bk.count,List.length_cons,List.length_append,h1,h2,h3];omega
theorem count_nil {b:Bk} (h:b.count=0):b=.nil:=by
 cases b with
 |nil=>rfl
 |cons s b e r=>simp[Bk.count]at h
def JF (x:Stm) (n:Nat):Prop:=0<=x.body/\0<=x.els/\x.body+x.els<=n/\(0<x.body->Hq x.kind)/\(0<x.els->x.kind=11)
instance (x:Stm) (n:Nat):Decidable (JF x n):=inferInstanceAs (Decidable (_/\_/\_/\(_->_)/\(_->_)))
def Dn (x:Stm) (r:List Stm):List Stm:=r.take x.body.toNat
def Db (x:Stm) (r:List Stm):List Stm:=(r.drop x.body.toNat).take x.els.toNat
def Do (x:Stm) (r:List Stm):List Stm:=r.drop (x.body.toNat+x.els.toNat)
def Hz:Nat->List Stm->Option Bk
 |_,[]=>some .nil
 |0,_::_=>none
 |f+1,x::r=>if JF x r.length then
   match Hz f (Dn x r),Hz f (Db x r),Hz f (Do x r)with
   |some b,some e,some t=>some (.cons x b e t)
   |_,_,_=>none
  else none
def Dp (L:List Stm):Option Bk:=Hz L.length L
theorem OG {x:Stm} {r:List Stm} (h:JF x r.length):((Dn x r).length:Int)=x.body/\((Db x r).length:Int)=x.els/\(Do x r).length+(x.body+x.els)=r.length:=by
 obtain⟨h1,h2,h3,_⟩:=h;unfold Dn Db Do;simp only[List.length_take,List.length_drop];omega
theorem QD (x:Stm) (r:List Stm):Dn x r++(Db x r++Do x r)=r:=by
 unfold Dn Db Do;rw[<-List.drop_drop,List.take_append_drop,List.take_append_drop]
theorem Ru:∀(f:Nat) (L:List Stm) (b:Bk),Hz f L=some b->b.fit/\b.flat=L:=by
 intro f
 induction f with
 |zero=>
  intro L b h;cases L with
  |nil=>simp[Hz]at h;subst h;exact⟨trivial,rfl⟩
  |cons x r=>simp[Hz]at h
 |succ f ih=>
  intro L b h;cases L with
  |nil=>simp[Hz]at h;subst h;exact⟨trivial,rfl⟩
  |cons x r=>
   unfold Hz at h;split at h
   ·rename_i hh
    split at h
    ·rename_i b1 e1 t1 h1 h2 h3
     simp at h;subst h;obtain⟨f1,g1⟩:=ih _ _ h1;obtain⟨f2,g2⟩:=ih _ _ h2;obtain⟨f3,g3⟩:=ih _ _ h3;obtain⟨l1,l2,l3⟩:=OG hh;have c1:(b1.count:Int)=x.body:=by rw[<-BV,g1];exact l1
     have c2:(e1.count:Int)=x.els:=by rw[<-BV,g2];exact l2
     refine⟨⟨c1.symm,c2.symm,fun h=>hh.2.2.2.1 (by omega),fun h=>hh.2.2.2.2 (by omega),f1,f2,f3⟩,?_⟩;show x::(b1.flat++(e1.flat++t1.flat))=x::r;rw[g1,g2,g3,QD]
    ·cases h
   ·cases h
theorem MD (s:Stm) (b e r:Bk) (h:(Bk.cons s b e r).fit):JF s (b.flat++(e.flat++r.flat)).length/\Dn s (b.flat++(e.flat++r.flat))=b.flat/\Db s (b.flat++(e.flat++r.flat))=e.flat/\Do s (b.flat++(e.flat++r.flat))=r.flat:=by
 obtain⟨h1,h2,h3,h4,_⟩:=h;have e1:s.body.toNat=b.flat.length:=by rw[h1,BV];simp
 have e2:s.els.toNat=e.flat.length:=by rw[h2,BV];simp
 refine⟨⟨by omega,by omega,?_,fun h=>h3 (by omega),fun h=>h4 (by omega)⟩,?_,?_,?_⟩
 ·simp only[List.length_append,BV];omega
 ·unfold Dn;rw[e1,List.take_left]
 ·unfold Db;rw[e1,e2,List.drop_left,List.take_left]
 ·unfold Do;rw[e1,e2,<-List.drop_drop,List.drop_left,List.drop_left]
theorem Rw (b:Bk):b.fit->∀f,b.count<=f->Hz f b.flat=some b:=by
 induction b with
 |nil=>intro _ f _;cases f<;>rfl
 |cons s b e r i1 i2 i3=>
  intro h f hf;simp only[Bk.count]at hf;cases f with
  |zero=>omega
  |succ f=>
   obtain⟨p1,p2,p3,p4⟩:=MD s b e r h;show Hz (f+1) (s::(b.flat++(e.flat++r.flat)))=_;unfold Hz;rw[if_pos p1,p2,p3,p4,i1 h.2.2.2.2.1 f (by omega),i2 h.2.2.2.2.2.1 f (by omega),i3 h.2.2.2.2.2.2 f (by omega)]
theorem ME {b:Bk} (h:b.fit):Dp b.flat=some b:=Rw b h _ (by rw[BV];exact Nat.le_refl _)
theorem MF {L:List Stm} {b:Bk} (h:Dp L=some b):b.fit/\b.flat=L:=Ru _ _ _ h
theorem QG {f:Nat} {L:List Stm} (h:L.length<=f):Hz f L=Dp L:=by
 cases h1:Hz f L with
 |some b=>
  obtain⟨h2,rfl⟩:=Ru _ _ _ h1;exact(ME h2).symm
 |none=>
  cases h2:Dp L with
  |none=>rfl
  |some b=>
   obtain⟨h3,rfl⟩:=MF h2;rw[Rw b h3 f (by rw[<-BV];exact h)]at h1;cases h1
def QFx:List (List UInt8):=[[],[114,101],[114,110],[110,101],[114,110,101,102],[110],[110],[],[],[110],[110],[101,98],[107,98],[],[101]]
def QFy (k:Int):List UInt8:=if 1<=k/\k<=14 then QFx.getD k.toNat []else[]
def Ie (k:Int) (c:UInt8):Bool:=(QFy k).any (fun x=>x==c)
def CM:List (List UInt8):=[[],[],[108,111,97,100],[115,116,111,114,101],[99,97,115],[102,108,117,115,104],[111,112,116],[115,102,101,110,99,101],[109,102,101,110,99,101],[116,97,107,101],[103,105,118,101],[105,102],[108,111,111,112],[98,114,101,97,107],[99,104,101,99,107]]
def Jv (k:Int):List UInt8:=CM.getD k.toNat []
def FW:List UInt8:=[101,108,115,101]
def EY (x:Stm):Bool:=decide (1<=x.kind)&&decide (x.kind<=14)&&decide (0<=x.pl)&&decide (x.pl<=4000)&&(if Ie x.kind 114 then nameB x.reg else x.reg.isEmpty)&&(if Ie x.kind 110 then nameB x.name else x.name.isEmpty)&&(if Ie x.kind 101 then Bm x.e else x.e.isEmpty)&&(if Ie x.kind 102 then Bm x.f else x.f.isEmpty)&&(if Ie x.kind 107 then decide (1<=x.n)&&decide (x.n<=8)else decide (x.n=0))
def YD (l:Nat) (L:List Stm):Option Nat:=match Dp L with
 |some b=>if b.brk l=true then some b.deep else none
 |none=>none
def CP (L:List Stm):Bool:=decide (L.length<=40)&&L.all EY&&(match YD 0 L with
 |some d=>decide (d<=12)
 |none=>false)
def H5 (b:Bk):Prop:=b.fit/\b.flat.all EY=true
theorem Dq {L:List Stm} (h:CP L=true):∃b:Bk,b.flat=L/\H5 b/\b.count<=40/\b.brk 0=true/\b.deep<=12/\Dp L=some b:=by
 unfold CP YD at h;simp only[Bool.and_eq_true,decide_eq_true_eq]at h;obtain⟨⟨h1,h2⟩,h3⟩:=h;cases ht:Dp L with
 |none=>rw[ht]at h3;cases h3
 |some b=>
  obtain⟨g1,rfl⟩:=MF ht;rw[ht]at h3;simp only at h3;cases hb:b.brk 0 with
  |false=>rw[hb]at h3;simp at h3
  |true=>
   rw[hb]at h3;simp at h3;exact⟨b,rfl,⟨g1,h2⟩,by rw[<-BV];exact h1,hb,h3,rfl⟩
theorem VE {b:Bk} (h:b.fit):CP b.flat=(decide (b.count<=40)&&b.flat.all EY&&b.brk 0&&decide (b.deep<=12)):=by
 unfold CP YD;rw[ME h,BV];cases hb:b.brk 0<;>simp[hb]
theorem VF {b:Bk} (h:H5 b) (h1:b.count<=40) (h2:b.brk 0=true) (h3:b.deep<=12):CP b.flat=true:=by
 rw[VE h.1,h.2,h2];simp;omega
def NG (x:Stm):List UInt8:=
 if x.kind=1 then x.reg++([32,61,32]++CL x.e)
 else if x.kind=2 then Jv 2++(32::(x.reg++([32,61,32]++x.name)))
 else if x.kind=3 then Jv 3++(32::(x.name++([32,61,32]++CL x.e)))
 else if x.kind=4 then Jv 4++(32::(x.reg++([32,61,32]++(x.name++([44,32]++(CL x.e++([44,32]++CL x.f)))))))
 else if x.kind=11\/x.kind=14 then Jv x.kind++(32::CL x.e)
 else if x.kind=12 then Jv 12++(32::Lib.itoa x.n)
 else if x.kind=7\/x.kind=8\/x.kind=13 then Jv x.kind
 else Jv x.kind++(32::x.name)
def B7:List UInt8->Bk->List UInt8
 |_,.nil=>[]
 |ind,.cons s b e r=>ind++(NG s++((if Hq s.kind then[32,123,10]++(B7 (ind++[32,32]) b++((if 0<e.count then ind++([125,32]++FW++[32,123,10])++B7 (ind++[32,32]) e else[])++(ind++[125,10])))else[59,10])++B7 ind r))
def showS (L:List Stm):List UInt8:=if CP L=true then(match Dp L with
 |some b=>B7 [] b
 |none=>[])else[]
theorem K0 {b:Bk} (h:b.fit) (hr:CP b.flat=true):showS b.flat=B7 [] b:=by
 unfold showS;rw[if_pos hr,ME h]
theorem QBW {L:List Stm} (h:CP L=false):showS L=[]:=by unfold showS;rw[h];rfl
def DT (p:Bool) (a b:Stm):Bool:=a.kind==b.kind&&a.reg==b.reg&&a.name==b.name&&a.n==b.n&&a.body==b.body&&a.els==b.els&&(!p||a.pl==b.pl)&&E9 p a.e b.e&&E9 p a.f b.f
def MG (p:Bool) (L M:List Stm):Bool:=Ae (DT p) L M
end Go.Proofs.YthfkpalfopdmhaaGreatDoor
namespace Go.Proofs.YthfkpalfopdmhaaGreatDoor
open Go.RowKit
end Go.Proofs.YthfkpalfopdmhaaGreatDoor
namespace Go.Proofs.YthfkpalfopdmhaaGreatDoor
open Go
theorem Rx {u:Nat} (h:u<10):Lib.decDigits u=[UInt8.ofNat (48+u)]:=Lib.decDigits_one h
theorem QBX {u:Nat} (h:¬u<10):Lib.decDigits u=Lib.decDigits (u/10)++[UInt8.ofNat (48+u%10)]:=by
 rw[Lib.decDigits,dif_neg h]
theorem QBY {k:Nat} (h:k<10):digB (UInt8.ofNat (48+k))=true/\(UInt8.ofNat (48+k)).toNat=48+k:=by
 have e:(UInt8.ofNat (48+k)).toNat=48+k:=by simp;omega
 refine⟨?_,e⟩;unfold digB;rw[e];simp;omega
theorem YE {c:UInt8} (h:digB c=true):[c].all digB=true:=by rw[List.all_cons,h];rfl
theorem TW (u:Nat):(Lib.decDigits u).all digB=true/\CY (Lib.decDigits u)=u/\Lib.decDigits u≠[]:=by
 induction u using Nat.strongRecOn with
 |_ u ih=>
  by_cases h:u<10
  ·rw[Rx h];have k:=QBY h;refine⟨YE k.1,?_,by simp⟩;show 0*10+((UInt8.ofNat (48+u)).toNat-48)=u;rw[k.2];omega
  ·obtain⟨i1,i2,i3⟩:=ih (u/10) (by omega);have k:=QBY (k:=u%10) (by omega);rw[QBX h];exact⟨by rw[List.all_append,i1,YE k.1];rfl,by rw[Rj,i2,k.2];omega,by simp⟩
def QH (r:List UInt8):Prop:=r=[]\/(∃y,r=32::y)\/(∃y,r=41::y)\/(∃y,r=44::y)\/(∃y,r=59::y)
theorem MH {p:UInt8->Bool} (h1:p 32=false) (h2:p 41=false) (h3:p 44=false) (h4:p 59=false) {r:List UInt8} (hr:QH r) (m:List UInt8) (hm:m.all p=true):(m++r).takeWhile p=m:=by
 have e:m.takeWhile p=m:=by
  have:=List.takeWhile_append_of_pos (l₁:=m) (l₂:=[]) (p:=p) (by simpa using hm);simpa using this
 rcases hr with rfl|⟨y,rfl⟩|⟨y,rfl⟩|⟨y,rfl⟩|⟨y,rfl⟩
 ·rw[List.append_nil,e]
 ·rw[IM p 32 h1,e]
 ·rw[IM p 41 h2,e]
 ·rw[IM p 44 h3,e]
 ·rw[IM p 59 h4,e]
def Tok.bare (t:Tok):Tok:={t with pl:=0}
theorem If {c:UInt8} {m r:List UInt8} {k n:Int} (a:Nat) (hb:Eu c=false) (h2:D8 ((c::m)++r)=false) (hc:AZ ((c::m)++r)=⟨0,k,c::m,n⟩):
  AV ((c::m)++r) a=(AV r (a+(c::m).length)).pre [⟨k,c::m,n,a⟩]:=by
 rw[List.cons_append]at *;rw[GA _ a hb h2 (by rw[hc]),hc];simp only;rw[<-List.cons_append,List.drop_left]
theorem OH {c:UInt8} (h:c≠47) (r:List UInt8):D8 (c::r)=false:=by
 unfold D8;simp[List.isPrefixOf];exact fun e=>absurd e.symm h
theorem ZN {l r:List UInt8} (a:Nat) (h:nameB l=true) (hr:QH r):AV (l++r) a=(AV r (a+l.length)).pre [⟨1,l,0,a⟩]:=by
 cases l with
 |nil=>exact absurd h (by decide)
 |cons c m=>
  unfold nameB at h;simp only[Bool.and_eq_true,decide_eq_true_eq]at h;obtain⟨⟨⟨⟨_,h1⟩,h2⟩,h3⟩,_⟩:=h;have hc:Ew c=true:=by simpa using h2
  have hcc:c.toNat=95\/(97<=c.toNat/\c.toNat<=122):=by unfold Ew at hc;simp at hc;omega
  have hb:Eu c=false:=by unfold Eu;simp;omega
  refine If a hb (OH (fun e=>by subst e;simp at hcc) _) ?_;rw[List.cons_append,Ez _ hc,<-List.cons_append];unfold DY;rw[MH (by decide) (by decide) (by decide) (by decide) hr (c::m) h3,if_neg (by omega)]
theorem scan_num {u:Nat} {r:List UInt8} (a:Nat) (h:u<=4294967296) (hr:QH r):AV (Lib.decDigits u++r) a=(AV r (a+(Lib.decDigits u).length)).pre [⟨2,Lib.decDigits u,u,a⟩]:=by
 obtain⟨h1,h2,h3⟩:=TW u;generalize Lib.decDigits u=l at *;cases l with
 |nil=>exact absurd rfl h3
 |cons c m=>
  have hc:digB c=true:=by simp at h1;exact h1.1
  have hcc:48<=c.toNat/\c.toNat<=57:=by unfold digB at hc;simpa using hc
  have hb:Eu c=false:=by unfold Eu;simp;omega
  have hl:Ew c=false:=by unfold Ew;simp;omega
  refine If a hb (OH (fun e=>by subst e;simp at hcc) _) ?_;rw[List.cons_append,GZ _ hl hc,<-List.cons_append];unfold FY;rw[MH (by decide) (by decide) (by decide) (by decide) hr (c::m) h1,h2,if_neg (by omega)]
theorem J4 {c:UInt8} {r:List UInt8} (a:Nat) (hc:c=40\/c=41\/c=45\/(c=33/\r.head?≠some 61)):AV (c::r) a=(AV r (a+1)).pre [⟨3,[c],0,a⟩]:=by
 have hcut:AZ (c::r)=⟨0,3,[c],0⟩:=by
  have hl:Ew c=false:=by rcases hc with rfl|rfl|rfl|⟨rfl,_⟩<;>decide
  have hd:digB c=false:=by rcases hc with rfl|rfl|rfl|⟨rfl,_⟩<;>decide
  rw[EO r hl hd];unfold Dm;have:Ey (c::r)=some [c]:=by
   unfold Ey Bg;rcases hc with rfl|rfl|rfl|⟨rfl,h⟩
   ·simp[List.isPrefixOf]
   ·simp[List.isPrefixOf]
   ·simp[List.isPrefixOf]
   ·cases r with
    |nil=>simp[List.isPrefixOf]
    |cons b r=>
     have hb:(61==b)=false:=by
      rw[beq_eq_false_iff_ne];intro e;exact h (by rw[<-e];rfl)
     simp[List.isPrefixOf,hb]
  rw[this]
 have hb:Eu c=false:=by rcases hc with rfl|rfl|rfl|⟨rfl,_⟩<;>decide
 have h2:D8 (c::r)=false:=OH (by rcases hc with rfl|rfl|rfl|⟨rfl,_⟩<;>decide) _;have:=If (c:=c) (m:=[]) (r:=r) (k:=3) (n:=0) a hb h2 hcut;exact this
theorem ZO:∀op:Fin 16,BD (op:Nat)=some 2->(AZ (Ar op)=⟨0,3,Ar op,0⟩/\D8 (Ar op)=false/\(match Ar op with|[]=>false|c::_=>!Eu c)=true):=by decide
theorem WY {k:Nat} (hk:BD (k:Int)=some 2) (r:List UInt8) (a:Nat):AV (Ar k++32::r) a=(AV r (a+(Ar k).length+1)).pre [⟨3,Ar k,0,a⟩]:=by
 have hop:=GN hk;obtain⟨h1,h2,h3⟩:=ZO ⟨k,by omega⟩ hk;simp only at h1 h2 h3;generalize Ar k=s at *;cases s with
 |nil=>exact absurd h3 (by decide)
 |cons c m=>
  have hb:Eu c=false:=by simpa using h3
  rw[If (k:=3) (n:=0) a hb (by rw[QDp (.inr rfl)];exact h2) (by rw[QDq (.inr rfl)];exact h1),Bj _ _ (by decide)]
def EP (k:Nat):Tok:=⟨3,Ar k,0,0⟩
def BK (inner:Bool):Ex->List Tok
 |.leaf a=>if a.op=1 then[⟨2,Lib.itoa a.n,a.n,0⟩]else[⟨1,a.name,0,0⟩]
 |.un a x=>EP a.op.toNat::BK true x
 |.bin a x y=>if inner=true then⟨3,[40],0,0⟩::(BK true x++EP a.op.toNat::BK true y)++[⟨3,[41],0,0⟩]else BK true x++EP a.op.toNat::BK true y
def JV (x:Ex):Prop:=x.ok/\x.flat.all CW=true
theorem PN {a:Nod} {x:Ex} (h:JV (.un a x)):JV x:=⟨h.1.2,by have:=h.2;simp only[Ex.flat,List.all_cons,Bool.and_eq_true]at this;exact this.2⟩
theorem K3 {a:Nod} {x y:Ex} (h:JV (.bin a x y)):JV x/\JV y:=by
 have:=h.2;simp only[Ex.flat,List.all_cons,List.all_append,Bool.and_eq_true]at this;exact⟨⟨h.1.2.1,this.2.1⟩,⟨h.1.2.2,this.2.2⟩⟩
theorem Ig {x:Ex} (h:JV x):CW x.top=true:=List.all_eq_true.1 h.2 _ (by rw[LV];simp)
theorem QI {a:Nod} (h:CW a=true) (h1:a.op=1):0<=a.n/\a.n<=4294967296/\a.name=[]:=by
 unfold CW at h;simp only[h1,if_true,Bool.and_eq_true,decide_eq_true_eq,List.isEmpty_iff]at h;exact⟨h.2.1.1,h.2.1.2,h.2.2⟩
theorem OI {a:Nod} (h:CW a=true) (h2:a.op=2):nameB a.name=true/\a.n=0:=by
 unfold CW at h;rw[if_neg (by omega),if_pos h2]at h;simp only[Bool.and_eq_true,decide_eq_true_eq]at h;exact⟨h.2.2,h.2.1⟩
theorem QJ {a:Nod} (h:CW a=true) (h1:a.op≠1) (h2:a.op≠2):a.n=0/\a.name=[]:=by
 unfold CW at h;rw[if_neg h1,if_neg h2]at h;simp only[Bool.and_eq_true,decide_eq_true_eq,List.isEmpty_iff]at h;exact⟨h.2.1,h.2.2⟩
theorem TX {a:Nod} (h:(Ex.leaf a).ok):a.op=1\/a.op=2:=by
 have h':BD a.op=some 0:=h;unfold BD at h';split at h'
 ·assumption
 ·split at h'
  ·simp at h'
  ·split at h'<;>simp at h'
theorem QBZ {a:Nod} (h:BD a.op=some 1):a.op=3\/a.op=4:=by
 unfold BD at h;split at h
 ·simp at h
 ·split at h
  ·assumption
  ·split at h<;>simp at h
theorem ZP:∀(x:Ex),JV x->∀r,(AU true x++r).head?≠some 61/\AU true x≠[]:=by
 intro x
 induction x with
 |leaf a=>
  intro h r;have hn:CW a=true:=Ig h;rcases TX h.1 with h1|h2
  ·obtain⟨b1,b2,_⟩:=QI hn h1;obtain⟨u,hu⟩:∃u:Nat,a.n=u:=⟨a.n.toNat,by omega⟩
   have e:AU true (.leaf a)=Lib.decDigits u:=by simp only[AU,h1,if_true];rw[hu,Lib.itoa_nonneg]
   rw[e];obtain⟨d1,_,d3⟩:=TW u;cases hd:Lib.decDigits u with
   |nil=>exact absurd hd d3
   |cons c m=>
    rw[hd]at d1;refine⟨?_,by simp⟩;simp only[List.cons_append,List.head?_cons];intro e2;simp at e2 d1;rw[e2]at d1;exact absurd d1.1 (by decide)
  ·have e:AU true (.leaf a)=a.name:=by simp[AU,h2]
   rw[e];have hnm:=(OI hn h2).1;cases hd:a.name with
   |nil=>rw[hd]at hnm;exact absurd hnm (by decide)
   |cons c m=>
    rw[hd]at hnm;refine⟨?_,by simp⟩;simp only[List.cons_append,List.head?_cons];intro e2;simp at e2;subst e2;unfold nameB at hnm;simp at hnm;exact absurd hnm.1.1.2 (by decide)
 |un a x ih=>
  intro h r;have e:AU true (.un a x)=Ar a.op.toNat++AU true x:=rfl;rw[e];rcases QBZ h.1.1 with h3|h4
  ·rw[h3];exact⟨by simp[Ar,Ib],by simp[Ar,Ib]⟩
  ·rw[h4];exact⟨by simp[Ar,Ib],by simp[Ar,Ib]⟩
 |bin a x y ih1 ih2=>
  intro h r;simp[AU]
theorem LW (T S:List Tok) (f:Found):(f.pre S).pre T=f.pre (T++S):=TN T S f
theorem WZ:∀(x:Ex) (b:Bool) (r:List UInt8) (a:Nat),JV x->QH r->∃T,T.map Tok.bare=BK b x/\AV (AU b x++r) a=(AV r (a+(AU b x).length)).pre T:=by
 intro x
 induction x with
 |leaf a=>
  intro b r p h hr;have hn:CW a=true:=Ig h;rcases TX h.1 with h1|h2
  ·obtain⟨b1,b2,_⟩:=QI hn h1;obtain⟨u,hu⟩:∃u:Nat,a.n=u:=⟨a.n.toNat,by omega⟩
   have e:AU b (.leaf a)=Lib.decDigits u:=by simp only[AU,h1,if_true];rw[hu,Lib.itoa_nonneg]
   have e2:BK b (.leaf a)=[⟨2,Lib.decDigits u,u,0⟩]:=by simp only[BK,h1,if_true];rw[hu,Lib.itoa_nonneg]
   rw[e,e2];exact⟨_,rfl,scan_num p (by omega) hr⟩
  ·have e:AU b (.leaf a)=a.name:=by simp[AU,h2]
   have e2:BK b (.leaf a)=[⟨1,a.name,0,0⟩]:=by simp[BK,h2]
   rw[e,e2];exact⟨_,rfl,ZN p (OI hn h2).1 hr⟩
 |un a x ih=>
  intro b r p h hr;have e:AU b (.un a x)=Ar a.op.toNat++AU true x:=rfl;have e2:BK b (.un a x)=EP a.op.toNat::BK true x:=rfl;have hh:=(ZP x (PN h) r).1;obtain⟨T,hT,hs⟩:=ih true r (p+1) (PN h) hr;rw[e,e2];rcases QBZ h.1.1 with h3|h4
  ·rw[h3];show∃T,_/\AV (45::(AU true x++r)) p=(AV r (p+((AU true x).length+1))).pre T;rw[J4 p (.inr (.inr (.inl rfl))),hs,LW,show p+1+(AU true x).length=p+((AU true x).length+1)from by omega];exact⟨_,by rw[List.map_append,hT];rfl,rfl⟩
  ·rw[h4];show∃T,_/\AV (33::(AU true x++r)) p=(AV r (p+((AU true x).length+1))).pre T;rw[J4 p (.inr (.inr (.inr ⟨rfl,hh⟩))),hs,LW,show p+1+(AU true x).length=p+((AU true x).length+1)from by omega];exact⟨_,by rw[List.map_append,hT];rfl,rfl⟩
 |bin a x y ih1 ih2=>
  intro b r p h hr;obtain⟨gx,gy⟩:=K3 h;have hop:=GN h.1.1;obtain⟨k,hk⟩:∃k:Nat,a.op=k:=⟨a.op.toNat,by omega⟩
  have hk2:BD (k:Int)=some 2:=by rw[<-hk];exact h.1.1
  have hkn:a.op.toNat=k:=by omega
  have core:∀(r:List UInt8) (p:Nat),QH r->∃T,T.map Tok.bare=BK true x++EP k::BK true y/\AV ((AU true x++[32]++Ar k++[32]++AU true y)++r) p=(AV r (p+(AU true x++[32]++Ar k++[32]++AU true y).length)).pre T:=by
   intro r p hr;obtain⟨T1,hT1,hs1⟩:=ih1 true (32::(Ar k++32::(AU true y++r))) p gx (.inr (.inl ⟨_,rfl⟩));obtain⟨T2,hT2,hs2⟩:=ih2 true r (p+(AU true x).length+1+(Ar k).length+1) gy hr;have e:(AU true x++[32]++Ar k++[32]++AU true y)++r=AU true x++(32::(Ar k++32::(AU true y++r))):=by simp
   rw[e,hs1,Bj _ _ (by decide),WY hk2,hs2,LW,LW];refine⟨T1++[⟨3,Ar k,0,p+(AU true x).length+1⟩]++T2,by rw[List.map_append,List.map_append,hT1,hT2,List.append_assoc];rfl,?_⟩;congr 2;simp only[List.length_append,List.length_cons,List.length_nil];omega
  cases b with
  |false=>
   have e:AU false (.bin a x y)=AU true x++[32]++Ar k++[32]++AU true y:=by simp[AU,hkn]
   have e2:BK false (.bin a x y)=BK true x++EP k::BK true y:=by simp[BK,hkn]
   rw[e,e2];exact core r p hr
  |true=>
   have e:AU true (.bin a x y)=40::((AU true x++[32]++Ar k++[32]++AU true y)++[41]):=by simp[AU,hkn]
   have e2:BK true (.bin a x y)=⟨3,[40],0,0⟩::((BK true x++EP k::BK true y)++[⟨3,[41],0,0⟩]):=by simp[BK,hkn]
   rw[e,e2];obtain⟨T,hT,hs⟩:=core (41::r) (p+1) (.inr (.inr (.inl ⟨_,rfl⟩)));generalize AU true x++[32]++Ar k++[32]++AU true y=m at *;rw[show(40::(m++[41]))++r=40::(m++41::r)from by simp,J4 p (.inl rfl),hs,J4 _ (.inr (.inl rfl)),LW,LW];refine⟨[⟨3,[40],0,p⟩]++T++[⟨3,[41],0,p+1+m.length⟩],by rw[List.map_append,List.map_append,hT,List.append_assoc];rfl,?_⟩;congr 2;simp only[List.length_append,List.length_cons,List.length_nil];omega
def bareN (a:Nod):Nod:={a with pl:=0}
def GF:Ex->Ex
 |.leaf a=>.leaf (bareN a)
 |.un a x=>.un (bareN a) (GF x)
 |.bin a x y=>.bin (bareN a) (GF x) (GF y)
def Ad (L:List Tok) (i:Nat) (T:List Tok):Prop:=(L.map Tok.bare).drop i=T
theorem Ad.head {L:List Tok} {i:Nat} {t:Tok} {T:List Tok} (h:Ad L i (t::T)):∃t',L[i]?=some t'/\t'.bare=t/\Ad L (i+1) T:=by
 unfold Ad at *;have h1:(L.map Tok.bare)[i]?=some t:=by
  have:=congrArg (fun l=>l[0]?) h;simpa using this
 rw[List.getElem?_map]at h1;cases hL:L[i]? with
 |none=>rw[hL]at h1;cases h1
 |some t'=>
  rw[hL]at h1;refine⟨t',rfl,by simpa using h1,?_⟩;rw[<-List.drop_drop,h];rfl
theorem Ad.app {L:List Tok} {i:Nat} {S T:List Tok} (h:Ad L i (S++T)):Ad L (i+S.length) T:=by
 unfold Ad at *;rw[<-List.drop_drop,h,List.drop_left]
theorem Ad.none {L:List Tok} {i:Nat} (h:Ad L i []):L.length<=i:=by
 unfold Ad at h;have:=congrArg List.length h;simp at this;omega
theorem Bh {L:List Tok} {i:Nat} {t:Tok} {T:List Tok} (h:Ad L i (t::T)) (s:List UInt8):isB L i s=((t.kind==1||t.kind==3)&&t.text==s):=by
 obtain⟨t',h1,h2,_⟩:=h.head;subst h2;unfold isB;rw[Int.toNat_natCast,h1];simp[Tok.bare]
theorem YF {L:List Tok} {i:Nat} (h:Ad L i []) (s:List UInt8):isB L i s=false:=by
 cases hb:isB L i s with
 |false=>rfl
 |true=>have:=Bl hb;have:=h.none;omega
theorem LY {L:List Tok} {b i:Nat} (h:∀op,op<16->Em op=b->isB L i (Ar op)=false):Aw L b i=0:=by
 cases hs:(decide (Aw L b i=0))with
 |true=>simpa using hs
 |false=>
  have hne:Aw L b i≠0:=by simpa using hs
  obtain⟨h1,h2,h3⟩:=G6 hne;rw[h _ h1 h2]at h3;cases h3
theorem VG {L:List Tok} {i b:Nat} {t:Tok} {T:List Tok} (h:Ad L i (t::T)) (hk:t.kind=2):Aw L b i=0:=LY fun _ _ _=>by rw[Bh h,hk];rfl
theorem MI {l:List UInt8} (h:nameB l=true):∃c m,l=c::m/\Ew c=true:=by
 cases l with
 |nil=>exact absurd h (by decide)
 |cons c m=>
  unfold nameB at h;simp at h;exact⟨c,m,rfl,h.1.1.2⟩
theorem Wa:∀op:Fin 16,(match Ar op with|[]=>true|c::_=>!Ew c)=true:=by decide
theorem TY {l:List UInt8} (h:nameB l=true) (op:Nat) (ho:op<16):(l==Ar op)=false:=by
 obtain⟨c,m,rfl,hc⟩:=MI h;have:=Wa ⟨op,ho⟩;rw[beq_eq_false_iff_ne];intro e;simp only[<-e]at this;rw[hc]at this;cases this
theorem TZ {L:List Tok} {i b:Nat} {t:Tok} {T:List Tok} (h:Ad L i (t::T)) (hn:nameB t.text=true):Aw L b i=0:=
 LY fun op ho _=>by rw[Bh h,TY hn op ho,Bool.and_false]
theorem QBa:∀op:Fin 16,(([41]:List UInt8)==Ar op)=false:=by decide
theorem RY {L:List Tok} {i b:Nat} {T:List Tok} (h:Ad L i (⟨3,[41],0,0⟩::T)):Aw L b i=0:=
 LY fun op ho _=>by rw[Bh h,QBa ⟨op,ho⟩,Bool.and_false]
theorem ZQ:∀(k:Fin 16) (b:Fin 7),BD (k:Nat)=some 2->1<=b.1->b.1<=5->((List.range 16).find? (fun op=>Em op==(b.1:Int)&&((((3:Int)==1)||((3:Int)==3))&&Ar k==Ar op))).getD 0=if Em k=(b.1:Int)then(k:Nat)else 0:=by decide+kernel
theorem Ou {L:List Tok} {i b k:Nat} {T:List Tok} (h:Ad L i (EP k::T)) (hk:BD (k:Int)=some 2) (hb:1<=b) (hb2:b<=5):Aw L b i=if Em k=(b:Int)then k else 0:=by
 have hop:=GN hk;have:=ZQ ⟨k,by omega⟩ ⟨b,by omega⟩ hk hb hb2;unfold Aw;rw[<-this];congr 2;funext op;rw[Bh h];rfl
theorem VH {L:List Tok} {i k:Nat} {T:List Tok} (h:Ad L i (EP k::T)) (hk:k=3\/k=4):Aw L 6 i=k/\isB L i [40]=false:=by
 refine⟨?_,by rw[Bh h];rcases hk with rfl|rfl<;>decide⟩;have e:(fun op=>Em op==((6:Nat):Int)&&isB L i (Ar op))=fun op=>Em op==((6:Nat):Int)&&((((3:Int)==1)||((3:Int)==3))&&Ar k==Ar op):=by
  funext op;rw[Bh h];rfl
 unfold Aw;rw[e];rcases hk with rfl|rfl<;>decide+kernel
theorem J5 {L:List Tok} {f i d tq:Nat} {x:Ex} (h:BU L f i d=some (.ok x tq)):∀(n b:Nat),b+n=6->1<=b->(∀c,b<=c->c<=5->Aw L c tq=0)->∃f',Ah L f' b i d=some (.ok x tq):=by
 intro n
 induction n with
 |zero=>
  intro b hb _ _;obtain rfl:b=6:=by omega
  exact⟨f+1,by rw[Ah,if_pos rfl];exact h⟩
 |succ n ih=>
  intro b hb h1 hs;obtain⟨f',hf'⟩:=ih (b+1) (by omega) (by omega) (fun c hc hc2=>hs c (by omega) hc2);cases f' with
  |zero=>simp[Ah]at hf'
  |succ f'=>exact⟨f'+1+1,by rw[Ah,if_neg (by omega),hf'];simp only;rw[Dw,if_pos (hs b (Nat.le_refl _) (by omega))]⟩
theorem QBb {L:List Tok} {f i d tq b:Nat} {x:Ex} (h:Ah L f (b+1) i d=some (.ok x tq)) (hb:b<=5) (hs:Aw L b tq=0):∃f',Ah L f' b i d=some (.ok x tq):=by
 cases f with
 |zero=>simp[Ah]at h
 |succ f=>exact⟨f+1+1,by rw[Ah,if_neg (by omega),h];simp only;rw[Dw,if_pos hs]⟩
theorem Wb {L:List Tok} {f i d tq:Nat} {x:Ex}:∀(n b:Nat),Ah L f (b+n) i d=some (.ok x tq)->b+n<=6->(∀c,c<=5->Aw L c tq=0)->∃f',Ah L f' b i d=some (.ok x tq):=by
 intro n
 induction n generalizing f with
 |zero=>intro b h _ _;exact⟨f,h⟩
 |succ n ih=>
  intro b h hb hs;obtain⟨f',hf'⟩:=QBb (b:=b+n) h (by omega) (hs _ (by omega));exact ih b hf' (by omega) hs
theorem PI {L:List Tok} {f i d tq:Nat} {x:Ex} (h1:isB L i [40]=true) (hd:d≠12) (h:Ah L f 1 (i+1) (d+1)=some (.ok x tq)) (h2:isB L tq [41]=true):BU L (f+1) i d=some (.ok x (tq+1)):=by
 rw[BU,if_pos h1,if_neg hd,h];simp only;rw[if_pos h2]
theorem Wc:∀k:Fin 16,BD (k:Nat)=some 2->∃b:Fin 6,1<=b.1/\Em k=(b.1:Int):=by decide
theorem VI {L:List Tok} {i d k t1 t2:Nat} {x y:Ex} {f g:Nat} (hk:BD (k:Int)=some 2) {T:List Tok} (h1:BU L f i d=some (.ok x t1)) (hs:Ad L t1 (EP k::T)) (h2:BU L g (t1+1) d=some (.ok y t2)) (hn:∀c,c<=5->Aw L c t2=0):
  ∃f',Ah L f' 1 i d=some (.ok (.bin ⟨k,0,[],plAt L t1⟩ x y) t2):=by
 have hop:=GN hk;obtain⟨b,hb1,hb⟩:=Wc ⟨k,by omega⟩ hk;have hb5:b.1<=5:=by omega
 simp only at hb;obtain⟨f1,hf1⟩:=J5 h1 (5-b.1) (b.1+1) (by omega) (by omega) (fun c hc hc2=>by
  rw[Ou hs hk (by omega) hc2,if_neg];intro e;rw[hb]at e;omega)
 obtain⟨f2,hf2⟩:=J5 h2 (5-b.1) (b.1+1) (by omega) (by omega) (fun c _ hc2=>hn c hc2);have hsg:Aw L b.1 t1=k:=by rw[Ou hs hk hb1 hb5,if_pos hb]
 have hsn:signN L b.1 t1=⟨k,0,[],plAt L t1⟩:=by unfold signN;rw[hsg]
 have hk0:Aw L b.1 t1≠0:=by rw[hsg];omega
 have hl:∃m,Dw L m b.1 x t1 d=some (.ok (.bin ⟨k,0,[],plAt L t1⟩ x y) t2):=by
  cases f2 with
  |zero=>simp[Ah]at hf2
  |succ f2=>
   refine⟨f2+1+1,?_⟩;rw[Dw,if_neg hk0,hf2];simp only;rw[hsn];split
   ·rfl
   ·rw[Dw,if_pos (hn _ hb5)]
 obtain⟨m,hm⟩:=hl;have hchain:∃f',Ah L f' b.1 i d=some (.ok (.bin ⟨k,0,[],plAt L t1⟩ x y) t2):=by
  refine⟨max f1 m+1,?_⟩;rw[Ah,if_neg (by omega),L9 (Nat.le_max_left f1 m) hf1];simp only;have:∀g,m<=g->Dw L g b.1 x t1 d=some (.ok (.bin ⟨k,0,[],plAt L t1⟩ x y) t2):=by
   intro g hg
   induction g with
   |zero=>
    obtain rfl:m=0:=by omega
    exact hm
   |succ g ih=>
    by_cases e:m=g+1
    ·subst e;exact hm
    ·exact(VB L g).2.1 _ _ _ _ _ (ih (by omega))
  exact this _ (Nat.le_max_right f1 m)
 obtain⟨f',hf'⟩:=hchain;exact Wb (b.1-1) 1 (by rw[show 1+(b.1-1)=b.1 from by omega];exact hf') (by omega) hn
theorem OJ {a:Nod} {k:Nat} (hk:a.op=k) (h:a.n=0/\a.name=[]) (q:Int):bareN ⟨k,0,[],q⟩=bareN a:=by
 obtain⟨op,n,name,pl⟩:=a;simp only at hk h;obtain⟨rfl,rfl⟩:=h;subst hk;rfl
theorem IE:∀(x:Ex) (L:List Tok) (i d:Nat) (R:List Tok),JV x->Ad L i (BK true x++R)->d+x.deep<=13->∃x' f,GF x'=GF x/\BU L f i d=some (.ok x' (i+(BK true x).length)):=by
 intro x
 induction x with
 |leaf a=>
  intro L i d R h hF hd;have hn:CW a=true:=Ig h;rcases TX h.1 with h1|h2
  ·obtain⟨b1,b2,b3⟩:=QI hn h1;have e:BK true (.leaf a)=[⟨2,Lib.itoa a.n,a.n,0⟩]:=by simp[BK,h1]
   rw[e]at hF⊢;obtain⟨t',g1,g2,_⟩:=Ad.head hF;refine⟨.leaf ⟨1,a.n,[],t'.pl⟩,1,?_,?_⟩
   ·obtain⟨op,n,name,pl⟩:=a;simp only at h1 b3;subst h1;subst b3;rfl
   ·rw[BU,if_neg (by rw[Bh hF];simp),if_pos (VG hF rfl)];have hk:t'.kind=2:=by have:=congrArg Tok.kind g2;exact this
    have hv:t'.n=a.n:=by have:=congrArg Tok.n g2;exact this
    unfold Fe;rw[g1];simp only;rw[if_pos hk,hv];rfl
  ·obtain⟨b1,b2⟩:=OI hn h2;have e:BK true (.leaf a)=[⟨1,a.name,0,0⟩]:=by simp[BK,h2]
   rw[e]at hF⊢;obtain⟨t',g1,g2,_⟩:=Ad.head hF;refine⟨.leaf ⟨2,0,a.name,t'.pl⟩,1,?_,?_⟩
   ·obtain⟨op,n,name,pl⟩:=a;simp only at h2 b2;subst h2;subst b2;rfl
   ·have h40:(a.name==[40])=false:=by
     obtain⟨c,m,hc,hl⟩:=MI b1;rw[beq_eq_false_iff_ne,hc];intro e2;simp at e2;rw[e2.1]at hl;exact absurd hl (by decide)
    rw[BU,if_neg (by rw[Bh hF];simp only;rw[h40];simp),if_pos (TZ hF b1)];have hk:t'.kind=1:=by have:=congrArg Tok.kind g2;exact this
    have hv:t'.text=a.name:=by have:=congrArg Tok.text g2;exact this
    unfold Fe;rw[g1];simp only;rw[if_neg (by omega),if_pos ⟨hk,by rw[hv];exact b1⟩,hv];rfl
 |un a x ih=>
  intro L i d R h hF hd;have hn:CW a=true:=Ig h;have h34:=QBZ h.1.1;obtain⟨k,hk⟩:∃k:Nat,a.op=k:=⟨a.op.toNat,by omega⟩
  have hkn:a.op.toNat=k:=by omega
  have e:BK true (.un a x)=EP k::BK true x:=by simp[BK,hkn]
  rw[e,List.cons_append]at hF;obtain⟨g1,g2⟩:=VH hF (by omega);obtain⟨t',_,_,hF2⟩:=Ad.head hF;simp only[Ex.deep]at hd;obtain⟨x',f,hx',hf⟩:=ih L (i+1) (d+1) R (PN h) hF2 (by omega);have hp:=M4 x;refine⟨.un ⟨k,0,[],plAt L i⟩ x',f+1,?_,?_⟩
  ·simp only[GF];rw[hx',OJ hk (QJ hn (by omega) (by omega))]
  ·rw[BU,if_neg (by rw[g2];simp),if_neg (by rw[g1];omega),if_neg (by omega),hf];simp only;unfold signN;rw[g1,e,List.length_cons,show i+1+(BK true x).length=i+((BK true x).length+1)from by omega]
 |bin a x y ih1 ih2=>
  intro L i d R h hF hd;have hn:CW a=true:=Ig h;obtain⟨gx,gy⟩:=K3 h;have hop:=GN h.1.1;obtain⟨k,hk⟩:∃k:Nat,a.op=k:=⟨a.op.toNat,by omega⟩
  have hk2:BD (k:Int)=some 2:=by rw[<-hk];exact h.1.1
  have hkn:a.op.toNat=k:=by omega
  have e:BK true (.bin a x y)=⟨3,[40],0,0⟩::(BK true x++EP k::BK true y)++[⟨3,[41],0,0⟩]:=by simp[BK,hkn]
  have hF':Ad L i (⟨3,[40],0,0⟩::(BK true x++(EP k::(BK true y++(⟨3,[41],0,0⟩::R))))):=by rw[e]at hF;simpa using hF
  have ho:isB L i [40]=true:=by rw[Bh hF'];rfl
  obtain⟨t',_,_,hF1⟩:=Ad.head hF';simp only[Ex.deep]at hd;have hp:=M4 x;obtain⟨x',f,hx',hf⟩:=ih1 L (i+1) (d+1) _ gx hF1 (by omega);have hF2:=hF1.app;obtain⟨t2,_,_,hF3⟩:=Ad.head hF2;obtain⟨y',g,hy',hg⟩:=ih2 L (i+1+(BK true x).length+1) (d+1) _ gy hF3 (by omega);have hF4:=hF3.app;obtain⟨f',hf'⟩:=VI hk2 hf hF2 hg (fun c _=>RY hF4);refine⟨.bin ⟨k,0,[],plAt L (i+1+(BK true x).length)⟩ x' y',f'+1,?_,?_⟩
  ·simp only[GF];rw[hx',hy',OJ hk (QJ hn (by
    intro e1;rw[e1]at hk;have:k=1:=by omega
    subst this;exact absurd hk2 (by decide)) (by
    intro e1;rw[e1]at hk;have:k=2:=by omega
    subst this;exact absurd hk2 (by decide)))]
  ·rw[PI ho (by omega) hf' (by rw[Bh hF4];rfl),e];congr 2;simp only[List.length_append,List.length_cons,List.length_nil];omega
end Go.Proofs.YthfkpalfopdmhaaGreatDoor
namespace Go.Proofs.YthfkpalfopdmhaaGreatDoor
open Go.RowKit
end Go.Proofs.YthfkpalfopdmhaaGreatDoor
namespace Go.Proofs.YthfkpalfopdmhaaGreatDoor
open Go Go.RowKit
def QGB (R:World->Prop):Exit->Act->World->Prop
 |.normal,_,W=>R W
 |.ret,_,_=>False
 |.exit _,_,_=>False
 |.goto _,_,_=>False
 |.panic _,_,_=>False
 |.outgrown,_,_=>False
def Vu {σ α:Type} (F:Fence) (n:Nat) (P:Program) (gf:Nat) (lb:Array Value) (encs:α->Array Value) (I:σ->World->Prop) (Mv:σ->World->σ->World->Prop) (Nx:σ->α->σ->Prop) (s0 s1:σ):Prop:=
 ∀(l:Nat) (J:σ->World->Prop) (W:World),(∀s W1,J s W1->I s W1)->(∀s W1 s' W2,J s W1->Mv s W1 s' W2->J s' W2)->
  (∀s x s' W1,J s W1->Nx s x s'->YieldAt F (n-1) P l (encs x) W1 (fun e W2=>e=.returned (.bool true)/\J s' W2))->J s0 W->
  CallsIn F n P gf (#[.func (.yield l) #[] #[]]++lb) W (fun e W2=>(∃v,e=.returned v)/\J s1 W2)
theorem Xe {σ α:Type} {F:Fence} {n:Nat} {P:Program} {g:Operand} {ps:Array Tmp} {assign body:Code} {Q:Exit->Act->World->Prop} {a:Act} {w:World}
  (hro:F.round=none) (h1:1<=n) {gf:Nat} {lb:Array Value} (hg:a.eval g=.func (.func gf) #[] lb) (hF:F.fn gf) (eg:∀args w,(callFunc gf args).run P w=.ok (.enter gf args) w)
  {encs:α->Array Value} (hps:∀x,(encs x).size=ps.size) {I:σ->World->Prop} {Mv:σ->World->σ->World->Prop} {Nx:σ->α->σ->Prop} {s0 s1:σ}
  (hseq:Vu F (n-1) P gf lb encs I Mv Nx s0 s1)
  (hMvI:∀s W s' W',I s W->Mv s W s' W'->I s' W')
  (hMvO:∀s W s' W',I s W->Mv s W s' W'->∀(k:Nat) (o:Obj),W.heap[k]?=some o->o.isCells=false->W'.heap[k]?=some o)
  (hI:∀s W (k:Nat) (o o':Obj),I s W->w.heap.size<=k->W.heap[k]?=some o->o.isCells=false->I s (W.putObj k o'))
  (h0:∀o1 o2:Obj,I s0 ((w.alloc o1).alloc o2)) (a₁:α->Act)
  (hassign:∀(l:Nat) (x:α) (W:World) (K:Act->World->Prop),K (a₁ x) W->
   assign.wpIn (F.inRound l) (n-1-1) P (Exit.then K (fun _ _ _=>False)) {tmps:=(ps.zip (encs x)).foldl (fun t (p,v)=>t.setIfInBounds p v) a.tmps,defers:=[]} W)
  (hbody:∀(l:Nat) (s:σ) (x:α) (s':σ) (W:World),I s W->Nx s x s'->body.wpIn (F.inRound l) (n-1-1) P (QGB (fun W'=>KeepsOthers W W'/\I s' W')) (a₁ x) W)
  (hdone:∀(D:Nat) (W:World),w.heap.size<=D->I s1 W->W.heap[D]?=some (.deferred (some []))->Q .normal {a with defers:={target:=.collected D,args:=#[]}::a.defers} W):
  (Code.rangeFunc g ps assign body).wpIn F n P Q a w:=by
 refine wpIn_rangeFunc ?_;intro fn hfn;rw[hro];obtain⟨rec,hrec⟩:∃rec:LoopState->Option Code->Loop,rec=fun st pe=>{state:=st,pending:=pe,fn,tmps:=a.tmps,params:=ps,assign,body,defers:=w.heap.size}:=⟨_,rfl⟩
 obtain⟨X,hX⟩:∃X,(w.alloc (.deferred (some []))).alloc (.loop (rec .ready none))=X:=⟨_,rfl⟩
 obtain⟨D,hD⟩:∃D,w.heap.size=D:=⟨_,rfl⟩
 have xr:X.heap[D+1]?=some (.loop (rec .ready none)):=by
  have:=World.alloc_heap_new (w.alloc (.deferred (some []))) (.loop (rec .ready none));rw[World.size_alloc,hD,hX]at this;exact this
 have xd:X.heap[D]?=some (.deferred (some [])):=by
  rw[<-hX,<-hD];exact(Below.heap_alloc _ _ _ (by simp)).trans (World.alloc_heap_new w _)
 let J:σ->World->Prop:=fun s W=>I s W/\W.heap[D+1]?=some (.loop (rec .ready none))/\W.heap[D]?=some (.deferred (some []))
 have hJ0:J s0 X:=⟨hX▸h0 _ _,xr,xd⟩
 have round:∀s x s' W1,J s W1->Nx s x s'->YieldAt F (n-1-1) P (D+1) (encs x) W1 (fun e W2=>e=.returned (.bool true)/\J s' W2):=by
  rintro s x s' W ⟨hi,hl,hd⟩ hx;have hlt:D+1<W.heap.size:=(Array.getElem?_eq_some_iff.1 hl).1;have hy:=run_yield (P:=P) (args:=encs x) hl (by rw[hrec];exact hps x);rw[hrec]at hy;refine⟨fn,_,assign,body,hy,roundIn_of_wpIn hfn (hassign _ x W _ ⟨_,run_beginRound hl (by rw[hrec]),?_⟩)⟩;have b1:(W.putObj (D+1) (.loop {rec .ready none with state:=.busy})).heap[D+1]?=some (.loop {rec .ready none with state:=.busy}):=World.putObj_heap_same hlt;have b2:(W.putObj (D+1) (.loop {rec .ready none with state:=.busy})).heap[D]?=some (.deferred (some [])):=(World.putObj_heap_other (by omega)).trans hd
  refine wpIn_mono (hbody _ s x s' _ (hI s W _ _ _ hi (by omega) hl rfl) hx) ?_;intro e a3 W3 hp;cases e with
  |normal=>
   obtain⟨k3,i3⟩:=hp;have l3:=k3.same _ _ b1 rfl;have d3:=k3.same _ _ b2 rfl;have hend:=run_endRound (P:=P) none l3;have hlt3:=(Array.getElem?_eq_some_iff.1 l3).1;refine⟨_,_,hend,rfl,hI s' W3 _ _ _ i3 (by omega) l3 rfl,?_,(World.putObj_heap_other (by omega)).trans d3⟩;rw[World.putObj_heap_same hlt3,hrec];rfl
  |ret=>exact hp.elim
  |exit id=>exact hp.elim
  |goto t=>exact hp.elim
  |panic ch=>exact hp.elim
  |outgrown=>exact hp.elim
 refine⟨D+1,[{target:=.collected D,args:=#[]}],X,{target:=.fn (.func gf) lb,args:=#[.func (.yield (D+1)) #[] #[]]},X,gf,#[.func (.yield (D+1)) #[] #[]]++lb,X,?_,?_,?_,?_,fun _=>h1,?_⟩
 ·rw[<-hX,hrec,<-hD];exact run_enterLoop_outer _ _ _ _ _
 ·simp only[resolve,hg];simp[go_sem]
 ·intro f' hf';simp[Target.leads]at hf';subst hf';exact hF
 ·simp[invoke,go_sem,eg]
 ·refine(hseq (D+1) J X (fun s W h=>h.1) (fun s W1 s' W2 h hm=>⟨hMvI _ _ _ _ h.1 hm,hMvO _ _ _ _ h.1 hm _ _ h.2.1 rfl,hMvO _ _ _ _ h.1 hm _ _ h.2.2 rfl⟩) round hJ0).mono ?_;rintro e W2 ⟨⟨v,rfl⟩,hi,hl,hd⟩;refine⟨none,_,(by have:=run_endLoop (P:=P) hl (by rw[hrec];simp);rw[hrec]at this;exact this),?_⟩;exact hdone D _ (by omega) (hI s1 W2 _ _ _ hi (by omega) hl rfl) ((World.putObj_heap_other (by omega)).trans hd)
end Go.Proofs.YthfkpalfopdmhaaGreatDoor
namespace Go.Proofs.YthfkpalfopdmhaaGreatDoor
open Go.RowKit
def Xn (x y:Int) (w:World) (e:Ending) (w':World):Prop:=e=.returned (.tuple #[.int .i64 x,.int .i64 y])/\Below w.heap.size w w'
theorem QAm {x x' y:Int} {w w':World} {e:Ending} (he:e=.returned (.tuple #[.int .i64 x',.int .i64 y])) (h:x'=x) (hb:Below w.heap.size w w'):Xn x y w e w':=by
 subst h;exact⟨he,hb⟩
def FN (l:List UInt8):Bool:=!l.isEmpty&&l.all digB&&l.head? != some 48
theorem Xo (l:List UInt8):∀n,n<=I2 n l:=by
 induction l with
 |nil=>intro n;exact Nat.le_refl _
 |cons c l ih=>
  intro n;have h:=ih (n*10+(c.toNat-48));show n<=I2 (n*10+(c.toNat-48)) l;omega
theorem UZ (l:List UInt8) (k:Nat):CY (l.take k)<=CY l:=by
 have h:CY l=I2 (CY (l.take k)) (l.drop k):=by
  rw[show CY l=CY (l.take k++l.drop k)from by rw[List.take_append_drop]];exact Ku 0 _ _
 rw[h];exact Xo _ _
theorem QCw (s:ByteArray) (k:Nat) (h:k<s.size):s[k]∈s.data.toList:=by
 have:s[k]=s.data.toList[k]'(by simpa using h):=rfl
 rw[this];exact List.getElem_mem _
theorem V4 (s:ByteArray) (h:0<s.size):s.data.toList.head?=some s[0]:=by
 rw[List.head?_eq_getElem?,List.getElem?_eq_getElem (by simpa using h)];rfl
theorem MY (s:ByteArray) (k:Nat) (h:k<s.size) (hd:digB s[k]=false):FN s.data.toList=false:=by
 have:s.data.toList.all digB=false:=by
  rw[List.all_eq_false];exact⟨_,QCw s k h,by simp[hd]⟩
 simp[FN,this]
theorem V5 (s:ByteArray) (h:0<s.size) (hd:s[0]=48):FN s.data.toList=false:=by
 simp[FN,V4 s h,hd]
def QCx (s:ByteArray) (k:Nat):Prop:=(s.data.toList.take k).all digB=true/\(0<k->s.data.toList.head?≠some 48)
theorem QAn (s:ByteArray):QCx s 0:=⟨by simp,fun h=>absurd h (by omega)⟩
theorem Sz (s:ByteArray) (k:Nat) (h:k<s.size) (ho:QCx s k) (hd:digB s[k]=true) (hz:k=0->s[k]≠48):QCx s (k+1):=by
 refine⟨by rw[take_snoc s k h,List.all_append,ho.1];simp[hd],fun _=>?_⟩;by_cases hk:k=0
 ·subst hk;rw[V4 s h];intro e;exact hz rfl (by simpa using e)
 ·exact ho.2 (by omega)
theorem QCy (s:ByteArray) (k:Nat) (h:¬k<s.size) (ho:QCx s k):FN s.data.toList=!s.data.toList.isEmpty:=by
 have h1:=ho.1;rw[Pj s k h]at h1;unfold FN;rw[h1];by_cases hs:0<s.size
 ·have h2:=ho.2 (by omega);simp[h2]
 ·have:s.data.toList=[]:=by
   have:s.data.toList.length=0:=by
    have e:s.data.toList.length=s.size:=rfl;omega
   exact List.length_eq_zero_iff.1 this
  simp[this]
def Kr:Nat:=9223372036854775808
def MZ (l:List UInt8):Int×Int:=
 if l=[48]then(0,0)
 else
  let minus:=l.head?==some 45
  let d:=if minus then l.tail else l
  if FN d=false then(0,8)
  else if Kr<CY d\/(minus=false/\CY d=Kr)then(0,4)
  else if minus then(-(CY d:Int),0)else((CY d:Int),0)
theorem F9 (w:World) (s:ByteArray) (pos:Nat):Below w.heap.size w (w.iter s pos):=(Below.refl _ _).alloc (Nat.le_refl _) _
theorem Ua {c:UInt8} (h:c.toNat<48\/57<c.toNat):digB c=false:=by
 unfold digB;rcases h with h|h
 ·simp;omega
 ·simp;omega
theorem QCz {c:UInt8} (h1:48<=c.toNat) (h2:c.toNat<=57):digB c=true:=by
 unfold digB;simp;omega
theorem QG0 {c:UInt8} {n:UInt8} (h:c.toNat=n.toNat):c=n:=UInt8.toNat_inj.1 h
set_option maxHeartbeats 1000000 in
theorem QAo (s:ByteArray) (w:World):
  Calls Tryz.prog 214 #[.string s] w fun e w'=>e=.returned (.bool (FN s.data.toList))/\Below w.heap.size w w':=by
 go_enter Tryz.func214,Tryz.ntmps214
 go_wp2
 go_loopw [3] (fun _ w'=>∃pos:Nat,w'=w.iter s pos/\QCx s pos) (fun _ w'=>s.size-w'.iterPos w.heap.size)
 case atStart=>exact⟨0,rfl,QAn s⟩
 case round=>
  obtain⟨pos,rfl,ho⟩:=hrel;have HO:=AA ho;clear ho;by_cases hp:pos<s.size
  ·by_cases ha:(s[pos]'hp).toNat<128
   ·have hnx:∀ty,(Instr.next (.pointer (some ⟨w.heap.size,0,none⟩)) true ty).run Tryz.prog (w.iter s pos)=_:=fun ty=>run_next_ascii w s pos ty hp ha
    generalize hc:(s[pos]'hp)=c at *
    have HC:=AA hc;clear hc;by_cases h1:(c.toNat:Int)<48
    ·have HB:=AA (MY s pos hp (by rw[HC.out];exact Ua (.inl (by omega))))
     go_wp2
     go_ret;exact⟨AH HB.out.symm,F9 _ _ _⟩
    ·by_cases h2:57<(c.toNat:Int)
     ·have HB:=AA (MY s pos hp (by rw[HC.out];exact Ua (.inr (by omega))))
      go_wp2
      go_ret;exact⟨AH HB.out.symm,F9 _ _ _⟩
     ·have HD:=AA (QCz (c:=c) (by omega) (by omega));by_cases h3:pos=0
      ·subst h3;by_cases h4:c.toNat=48
       ·have HB:=AA (V5 s hp (by rw[HC.out];exact QG0 h4));have h5:((c.toNat:Int)==48)=true:=beq_iff_eq.2 (by omega);clear h4
        go_wp2
        go_ret;exact⟨AH HB.out.symm,F9 _ _ _⟩
       ·have h5:((c.toNat:Int)==48)=false:=beq_eq_false_iff_ne.2 (by omega);have HS:=AA (Sz s 0 hp HO.out (by rw[HC.out];exact HD.out) (fun _ e=>h4 (by rw[<-HC.out,e];rfl)));clear h4
        go_wp2
        go_roundw;case rel=>exact⟨1,rfl,HS.out⟩
        case measure=>simp;omega
      ·have h5:((pos:Int)==0)=false:=beq_eq_false_iff_ne.2 (by omega);have HS:=AA (Sz s pos hp HO.out (by rw[HC.out];exact HD.out) (fun e=>absurd e h3));clear h3
       go_wp2
       go_roundw;case rel=>exact⟨pos+1,rfl,HS.out⟩
       case measure=>simp;omega
   ·have hnx:∀ty,(Instr.next (.pointer (some ⟨w.heap.size,0,none⟩)) true ty).run Tryz.prog (w.iter s pos)=_:=fun ty=>run_next_any w s pos ty hp
    have hh:=(decode_high s pos hp (by omega)).1;have HB:=AA (MY s pos hp (Ua (.inr (by omega))));clear ha;generalize(Utf8.decode s pos).1=r at *;generalize(Utf8.decode s pos).2=q at *;have h1:¬(r:Int)<48:=by omega
    have h2:57<(r:Int):=by omega
    go_wp2
    go_ret;exact⟨AH HB.out.symm,F9 _ _ _⟩
  ·have hnx:∀ty,(Instr.next (.pointer (some ⟨w.heap.size,0,none⟩)) true ty).run Tryz.prog (w.iter s pos)=_:=fun ty=>run_next_end w s pos ty hp
   have HB:=AA (QCy s pos hp HO.out)
   go_wp2
   go_ret;refine⟨AH ?_,F9 _ _ _⟩;rw[HB.out,ByteArray.toList_eq]
theorem RA (s:ByteArray) (k:Nat) (h:k<s.size):CY (s.data.toList.take (k+1))=CY (s.data.toList.take k)*10+(s[k].toNat-48):=by
 rw[take_snoc s k h,Rj]
theorem Yi (x n:Int) (hx:x<=0):n<x.tdiv 10↔n*10<x:=by
 have e:x.tdiv 10= -((-x)/10):=by
  rw[show x= -(-x)from by omega,Int.neg_tdiv,Int.tdiv_eq_ediv_of_nonneg (by omega)];simp
 rw[e];omega
theorem QGT (s:ByteArray) (k:Nat) (h:k<s.size) (ha:s.data.toList.all digB=true):48<=s[k].toNat/\s[k].toNat<=57:=by
 have:=List.all_eq_true.1 ha _ (QCw s k h);unfold digB at this;simpa using this
def QAp (l:List UInt8):Int:=if CY l<=Kr then -(CY l:Int)else 0
def QAq (l:List UInt8):Bool:=decide (CY l<=Kr)
def Ub (x:Int) (y:Bool) (w:World) (e:Ending) (w':World):Prop:=e=.returned (.tuple #[.int .i64 x,.bool y])/\Below w.heap.size w w'
theorem RD {x x':Int} {y y':Bool} {w w':World} {e:Ending} (he:e=.returned (.tuple #[.int .i64 x',.bool y'])) (hx:x'=x) (hy:y'=y) (hb:Below w.heap.size w w'):Ub x y w e w':=by
 subst hx;subst hy;exact⟨he,hb⟩
theorem QC0 {l:List UInt8} (h:Kr<CY l):(0=QAp l)/\(false=QAq l):=by
 unfold QAp QAq;rw[if_neg (by omega)];simp;omega
theorem Yj {l:List UInt8} (h:CY l<=Kr):(-(CY l:Int)=QAp l)/\(true=QAq l):=by
 unfold QAp QAq;rw[if_pos h];simp[h]
theorem QE4 (m d:Nat) (h1:48<=d) (h2:d<=57) (hm:m<=9223372036854775808) (hf:¬ -(m:Int)*10< -9223372036854775808+((d:Int)-48)):
  wrap64 (wrap64 (-(m:Int)*10)-((d:Int)-48))= -((m*10+(d-48):Nat):Int):=by
 rw[IntWalk.wrap64_in (-(m:Int)*10) (by omega),IntWalk.wrap64_in _ (by omega)];omega
set_option maxHeartbeats 1000000 in
theorem Xp (s:ByteArray) (w:World) (hall:s.data.toList.all digB=true):
  Calls Tryz.prog 215 #[.string s] w (Ub (QAp s.data.toList) (QAq s.data.toList) w):=by
 have HA:=AA hall;clear hall;go_enter Tryz.func215,Tryz.ntmps215
 go_wp2
 go_loopw [4] (fun n w'=>∃pos:Nat,w'=w.iter s pos/\n=.int .i64 (-(CY (s.data.toList.take pos):Int))/\CY (s.data.toList.take pos)<=9223372036854775808) (fun _ w'=>s.size-w'.iterPos w.heap.size)
 case atStart=>exact⟨0,rfl,rfl,Nat.zero_le _⟩
 case round=>
  obtain⟨pos,rfl,rfl,ho⟩:=hrel;by_cases hp:pos<s.size
  ·have hd:=QGT s pos hp HA.out;have hnx:∀ty,(Instr.next (.pointer (some ⟨w.heap.size,0,none⟩)) true ty).run Tryz.prog (w.iter s pos)=_:=fun ty=>run_next_ascii w s pos ty hp (by omega)
   have HS:=AA (RA s pos hp);have HL:=AA (UZ s.data.toList (pos+1));generalize(s[pos]'hp)=c at *
   generalize hm:CY (s.data.toList.take pos)=m at *;clear hm;obtain⟨d,hdd⟩:∃d:Nat,c.toNat=d:=⟨_,rfl⟩
   rw[hdd]at hd hnx;have HC:=AA hdd;clear hdd;by_cases hf: -(m:Int)*10< -9223372036854775808+((d:Int)-48)
   ·have hq: -(m:Int)<(-9223372036854775808+((d:Int)-48)).tdiv 10:=(Yi _ _ (by omega)).2 hf;have HR:=AA (QC0 (l:=s.data.toList) (by have h1:=HS.out;have h2:=HL.out;have h3:=HC.out;unfold Kr;omega));clear hf
    go_wp2
    go_ret2
    exact RD rfl HR.out.1 HR.out.2 (F9 _ _ _)
   ·have hq:¬ -(m:Int)<(-9223372036854775808+((d:Int)-48)).tdiv 10:=fun h=>hf ((Yi _ _ (by omega)).1 h)
    have HE:=AA (QE4 m d hd.1 hd.2 ho hf);have HN:Hid (CY (List.take (pos+1) s.data.toList)=m*10+(d-48)):=by
     have h1:=HS.out;have h3:=HC.out;rw[h3]at h1;exact AA h1
    have HM:Hid (m*10+(d-48)<=9223372036854775808):=AA (by omega);clear hf
    go_wp2
    go_roundw;case rel=>exact⟨pos+1,rfl,by rw[HE.out,HN.out],by rw[HN.out];exact HM.out⟩
    case measure=>simp;omega
  ·have hnx:∀ty,(Instr.next (.pointer (some ⟨w.heap.size,0,none⟩)) true ty).run Tryz.prog (w.iter s pos)=_:=fun ty=>run_next_end w s pos ty hp
   have ht:=Pj s pos hp;rw[ht]at ho⊢;have HR:=AA (Yj (l:=s.data.toList) ho);clear ht
   go_wp2
   go_ret2
   exact RD rfl HR.out.1 HR.out.2 (F9 _ _ _)
theorem QAr {l:List UInt8} (h:FN l=true):l.all digB=true:=by
 unfold FN at h;simp only[Bool.and_eq_true]at h;exact h.1.2
theorem RG (d:List UInt8) (w:World):
  Calls Tryz.prog 214 #[.string ⟨d.toArray⟩] w fun e w'=>e=.returned (.bool (FN d))/\Below w.heap.size w w':=by
 have h:=QAo ⟨d.toArray⟩ w;simpa using h
theorem Xq (d:List UInt8) (w:World) (h:FN d=true):
  Calls Tryz.prog 215 #[.string ⟨d.toArray⟩] w (Ub (QAp d) (QAq d) w):=by
 have h:=Xp ⟨d.toArray⟩ w (by simpa using QAr h);simpa using h
theorem QAs (l:List UInt8) (h:l≠[48]):MZ l=
  if FN (Lib.trimPrefix l [45])=false then(0,8)
  else if Kr<CY (Lib.trimPrefix l [45])\/(Lib.hasPrefix l [45]=false/\CY (Lib.trimPrefix l [45])=Kr)then(0,4)
  else if Lib.hasPrefix l [45]=true then(-(CY (Lib.trimPrefix l [45]):Int),0)else((CY (Lib.trimPrefix l [45]):Int),0):=by
 have e1:(l.head?==some 45)=Lib.hasPrefix l [45]:=by
  cases l with
  |nil=>rfl
  |cons c l=>simp[Lib.hasPrefix,List.isPrefixOf];rw[Bool.eq_iff_iff];simp;exact eq_comm
 have e2:(if Lib.hasPrefix l [45]=true then l.tail else l)=Lib.trimPrefix l [45]:=by
  unfold Lib.trimPrefix;simp
 unfold MZ;rw[if_neg h];simp only[e1,e2]
theorem JA {x y:Int} {p:Int×Int} {w w':World} {e:Ending} (he:e=.returned (.tuple #[.int .i64 x,.int .i64 y])) (h:p=(x,y)) (hb:Below w.heap.size w w'):Xn p.1 p.2 w e w':=by
 subst h;exact⟨he,hb⟩
set_option maxHeartbeats 1000000 in
theorem Xr (s:ByteArray) (w:World):
  Calls Tryz.prog 179 #[.string s] w (Xn (MZ s.data.toList).1 (MZ s.data.toList).2 w):=by
 by_cases hz:s.data.toList=[48]
 ·obtain rfl:s=⟨#[48]⟩:=by cases s with|mk d=>cases d with|mk l=>simp at hz;subst hz;rfl
  go_enter Tryz.func179,Tryz.ntmps179
  go_wp2
  go_ret2
  exact QAm rfl rfl (Below.refl _ _)
 ·have hz1:(s.toList==[48])=false:=by rw[ByteArray.toList_eq];simpa using hz
  have HP:=AA (QAs _ hz);clear hz;have hlist:(ByteArray.mk #[45]).data.toList=[45]:=rfl;generalize hm:Lib.hasPrefix s.data.toList [45]=m at HP;generalize hd:Lib.trimPrefix s.data.toList [45]=d at HP;have Hm:=AA hm;have Hd:=AA hd;clear hm hd hlist;go_enter Tryz.func179,Tryz.ntmps179;go_wp2_with fail
  refine(Tryz.strings_CutPrefix s ⟨#[45]⟩ _).mono ?_;rintro e w' ⟨rfl,rfl⟩;rw[show(ByteArray.mk #[45]).data.toList=[45]from rfl,Hm.out,Hd.out];by_cases hp:FN d=true
  ·have HB:=AA hp;go_wp2_with fail
   refine(RG d _).mono ?_;rintro e w1 ⟨rfl,hb1⟩;rw[HB.out];clear hp;go_wp2_with fail
   refine(Xq d _ HB.out).mono ?_;rintro e w2 ⟨rfl,hb2⟩;have HP2:=HP.out;rw[if_neg (by rw[HB.out];simp)]at HP2;by_cases hv:CY d<=Kr
   ·have hbel:=Yj hv;rw[<-hbel.1,<-hbel.2];clear hbel;cases m with
    |true=>
     rw[if_neg (by simp;omega),if_pos rfl]at HP2;have HR:=AA HP2;clear HP2 hv
     go_wp2
     go_ret2
     exact JA rfl HR.out (AC hb1 hb2)
    |false=>
     by_cases he:CY d=Kr
     ·rw[if_pos (.inr ⟨rfl,he⟩)]at HP2;have HR:=AA HP2;have hq:(-(CY d:Int)== -9223372036854775808)=true:=beq_iff_eq.2 (by unfold Kr at he;omega);clear HP2 hv he
      go_wp2
      go_ret2
      exact JA rfl HR.out (AC hb1 hb2)
     ·rw[if_neg (by simp;omega),if_neg (by simp)]at HP2;have hq:(-(CY d:Int)== -9223372036854775808)=false:=beq_eq_false_iff_ne.2 (by unfold Kr at he;omega);have HR:=AA HP2;have HW:Hid (wrap64 (CY d:Int)=(CY d:Int)):=AA (IntWalk.wrap64_in _ (by unfold Kr at hv he;omega));clear HP2 hv he
      go_wp2
      go_ret2
      exact JA rfl (by rw[HR.out,HW.out]) (AC hb1 hb2)
   ·have hbel:=QC0 (l:=d) (by omega);rw[<-hbel.1,<-hbel.2];clear hbel;rw[if_pos (.inl (by omega))]at HP2;have HR:=AA HP2;clear HP2 hv
    go_wp2
    go_ret2
    exact JA rfl HR.out (AC hb1 hb2)
  ·have HB:Hid (FN d=false):=AA (by simpa using hp);clear hp;go_wp2_with fail
   refine(RG d _).mono ?_;rintro e w1 ⟨rfl,hb1⟩;rw[HB.out];have HR:Hid (MZ s.data.toList=(0,8)):=AA (by rw[HP.out,if_pos HB.out])
   go_wp2
   go_ret2
   exact⟨by rw[HR.out];rfl,hb1⟩
end Go.Proofs.YthfkpalfopdmhaaGreatDoor
