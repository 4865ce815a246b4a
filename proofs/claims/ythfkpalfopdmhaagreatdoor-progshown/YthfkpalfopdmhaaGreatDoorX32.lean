/- Texts of the walk, packed. -/
import Derived.Test.YthfkpalfopdmhaaGreatDoorX30
import Derived.Test.YthfkpalfopdmhaaGreatDoorX06
import Derived.Test.YthfkpalfopdmhaaGreatDoorX02
import Derived.Test.YthfkpalfopdmhaaGreatDoorX11
import Derived.Lib.AppendIntMem
import Derived.Test.YthfkpalfopdmhaaGreatDoorX18
import Derived.Test.YthfkpalfopdmhaaGreatDoorX17
import Derived.Test.YthfkpalfopdmhaaGreatDoorX28
import Derived.Test.YthfkpalfopdmhaaGreatDoorX22
import Derived.Test.YthfkpalfopdmhaaGreatDoorX31
import Derived.Test.YthfkpalfopdmhaaGreatDoorX00
namespace Go.Proofs.YthfkpalfopdmhaaGreatDoor
open Go.RowKit
def Enters (F:Nat):Prop:=∀(args:Array Value) (w:World),(callFunc F args).run Tryz.prog w=.ok (.enter F args) w
theorem QR {α:Type} {p:α→Bool} {L:List α} {k:Nat} {a:α} (h:L[k]?=some a) (ha:(L.take k).all p=true) (hp:p a=true):(L.take (k+1)).all p=true:=by
 rw[List.take_add_one,h,List.all_append,ha];simp[hp]
theorem QS {α:Type} {p:α→Bool} {L:List α} {k:Nat} {a:α} (h:L[k]?=some a) (hp:p a=false):L.all p=false:=by
 rw[List.all_eq_false];exact⟨a,List.mem_of_getElem? h,by simp[hp]⟩
def QT (b:Bool) (w:World) (e:Ending) (w':World):Prop:=∃n:Int,e=.returned (.int .i64 n)∧decide (0≤n)=b∧Below w.heap.size w w'
def Ww (x y:Int) (w:World) (e:Ending) (w':World):Prop:=e=.returned (.tuple #[.int .i64 x,.int .i64 y])∧Below w.heap.size w w'
theorem Zk {x x' y:Int} {w w':World} {e:Ending} (he:e=.returned (.tuple #[.int .i64 x',.int .i64 y])) (h:x'=x) (hb:Below w.heap.size w w'):Ww x y w e w':=by
 subst h;exact⟨he,hb⟩
def FH (l:List UInt8):Bool:=!l.isEmpty&&l.all digB&&l.head? != some 48
theorem Wx (l:List UInt8):∀n,n≤I3 n l:=by
 induction l with
 |nil=>intro n;exact Nat.le_refl _
 |cons c l ih=>
  intro n;have h:=ih (n*10+(c.toNat-48));show n≤I3 (n*10+(c.toNat-48)) l;omega
theorem Ti (l:List UInt8) (k:Nat):Cd (l.take k)≤Cd l:=by
 have h:Cd l=I3 (Cd (l.take k)) (l.drop k):=by
  rw[show Cd l=Cd (l.take k++l.drop k)from by rw[List.take_append_drop]];exact KT 0 _ _
 rw[h];exact Wx _ _
theorem QBk (s:ByteArray) (k:Nat) (h:k<s.size):s[k]∈s.data.toList:=by
 have:s[k]=s.data.toList[k]'(by simpa using h):=rfl
 rw[this];exact List.getElem_mem _
theorem VI (s:ByteArray) (h:0<s.size):s.data.toList.head?=some s[0]:=by
 rw[List.head?_eq_getElem?,List.getElem?_eq_getElem (by simpa using h)];rfl
theorem ME (s:ByteArray) (k:Nat) (h:k<s.size) (hd:digB s[k]=false):FH s.data.toList=false:=by
 have:s.data.toList.all digB=false:=by
  rw[List.all_eq_false];exact⟨_,QBk s k h,by simp[hd]⟩
 simp[FH,this]
theorem VJ (s:ByteArray) (h:0<s.size) (hd:s[0]=48):FH s.data.toList=false:=by
 simp[FH,VI s h,hd]
def QBl (s:ByteArray) (k:Nat):Prop:=(s.data.toList.take k).all digB=true∧(0<k→s.data.toList.head?≠some 48)
theorem Zl (s:ByteArray):QBl s 0:=⟨by simp,fun h=>absurd h (by omega)⟩
theorem Rw (s:ByteArray) (k:Nat) (h:k<s.size) (ho:QBl s k) (hd:digB s[k]=true) (hz:k=0→s[k]≠48):QBl s (k+1):=by
 refine⟨by rw[take_snoc s k h,List.all_append,ho.1];simp[hd],fun _=>?_⟩;by_cases hk:k=0
 ·subst hk;rw[VI s h];intro e;exact hz rfl (by simpa using e)
 ·exact ho.2 (by omega)
theorem QBm (s:ByteArray) (k:Nat) (h:¬k<s.size) (ho:QBl s k):FH s.data.toList=!s.data.toList.isEmpty:=by
 have h1:=ho.1;rw[O3 s k h]at h1;unfold FH;rw[h1];by_cases hs:0<s.size
 ·have h2:=ho.2 (by omega);simp[h2]
 ·have:s.data.toList=[]:=by
   have:s.data.toList.length=0:=by
    have e:s.data.toList.length=s.size:=rfl;omega
   exact List.length_eq_zero_iff.1 this
  simp[this]
def KQ:Nat:=9223372036854775808
def MF (l:List UInt8):Int×Int:=
 if l=[48]then(0,0)
 else
  let minus:=l.head?==some 45
  let d:=if minus then l.tail else l
  if FH d=false then(0,8)
  else if KQ<Cd d∨(minus=false∧Cd d=KQ)then(0,4)
  else if minus then(-(Cd d:Int),0)else((Cd d:Int),0)
theorem GE (w:World) (s:ByteArray) (pos:Nat):Below w.heap.size w (w.iter s pos):=(Below.refl _ _).alloc (Nat.le_refl _) _
theorem Tj {c:UInt8} (h:c.toNat<48∨57<c.toNat):digB c=false:=by
 unfold digB;rcases h with h|h
 ·simp;omega
 ·simp;omega
theorem QBn {c:UInt8} (h1:48≤c.toNat) (h2:c.toNat≤57):digB c=true:=by
 unfold digB;simp;omega
theorem QGk {c:UInt8} {n:UInt8} (h:c.toNat=n.toNat):c=n:=UInt8.toNat_inj.1 h
set_option maxHeartbeats 1000000 in
theorem Zm (s:ByteArray) (w:World):
  Calls Tryz.prog 214 #[.string s] w fun e w'=>e=.returned (.bool (FH s.data.toList))∧Below w.heap.size w w':=by
 go_enter Tryz.func214,Tryz.ntmps214
 go_wp2
 go_loopw [3] (fun _ w'=>∃pos:Nat,w'=w.iter s pos∧QBl s pos) (fun _ w'=>s.size-w'.iterPos w.heap.size)
 case atStart=>exact⟨0,rfl,Zl s⟩
 case round=>
  obtain⟨pos,rfl,ho⟩:=hrel;have HO:=AA ho;clear ho;by_cases hp:pos<s.size
  ·by_cases ha:(s[pos]'hp).toNat<128
   ·have hnx:∀ty,(Instr.next (.pointer (some ⟨w.heap.size,0,none⟩)) true ty).run Tryz.prog (w.iter s pos)=_:=fun ty=>run_next_ascii w s pos ty hp ha
    generalize hc:(s[pos]'hp)=c at *
    have HC:=AA hc;clear hc;by_cases h1:(c.toNat:Int)<48
    ·have HB:=AA (ME s pos hp (by rw[HC.out];exact Tj (.inl (by omega))))
     go_wp2
     go_ret;exact⟨AH HB.out.symm,GE _ _ _⟩
    ·by_cases h2:57<(c.toNat:Int)
     ·have HB:=AA (ME s pos hp (by rw[HC.out];exact Tj (.inr (by omega))))
      go_wp2
      go_ret;exact⟨AH HB.out.symm,GE _ _ _⟩
     ·have HD:=AA (QBn (c:=c) (by omega) (by omega));by_cases h3:pos=0
      ·subst h3;by_cases h4:c.toNat=48
       ·have HB:=AA (VJ s hp (by rw[HC.out];exact QGk h4));have h5:((c.toNat:Int)==48)=true:=beq_iff_eq.2 (by omega);clear h4
        go_wp2
        go_ret;exact⟨AH HB.out.symm,GE _ _ _⟩
       ·have h5:((c.toNat:Int)==48)=false:=beq_eq_false_iff_ne.2 (by omega);have HS:=AA (Rw s 0 hp HO.out (by rw[HC.out];exact HD.out) (fun _ e=>h4 (by rw[←HC.out,e];rfl)));clear h4
        go_wp2
        go_roundw;case rel=>exact⟨1,rfl,HS.out⟩
        case measure=>simp;omega
      ·have h5:((pos:Int)==0)=false:=beq_eq_false_iff_ne.2 (by omega);have HS:=AA (Rw s pos hp HO.out (by rw[HC.out];exact HD.out) (fun e=>absurd e h3));clear h3
       go_wp2
       go_roundw;case rel=>exact⟨pos+1,rfl,HS.out⟩
       case measure=>simp;omega
   ·have hnx:∀ty,(Instr.next (.pointer (some ⟨w.heap.size,0,none⟩)) true ty).run Tryz.prog (w.iter s pos)=_:=fun ty=>run_next_any w s pos ty hp
    have hh:=(decode_high s pos hp (by omega)).1;have HB:=AA (ME s pos hp (Tj (.inr (by omega))));clear ha;generalize(Utf8.decode s pos).1=r at *;generalize(Utf8.decode s pos).2=q at *;have h1:¬(r:Int)<48:=by omega
    have h2:57<(r:Int):=by omega
    go_wp2
    go_ret;exact⟨AH HB.out.symm,GE _ _ _⟩
  ·have hnx:∀ty,(Instr.next (.pointer (some ⟨w.heap.size,0,none⟩)) true ty).run Tryz.prog (w.iter s pos)=_:=fun ty=>run_next_end w s pos ty hp
   have HB:=AA (QBm s pos hp HO.out)
   go_wp2
   go_ret;refine⟨AH ?_,GE _ _ _⟩;rw[HB.out,ByteArray.toList_eq]
theorem QY (s:ByteArray) (k:Nat) (h:k<s.size):Cd (s.data.toList.take (k+1))=Cd (s.data.toList.take k)*10+(s[k].toNat-48):=by
 rw[take_snoc s k h,Qy]
theorem Xv (x n:Int) (hx:x≤0):n<x.tdiv 10↔n*10<x:=by
 have e:x.tdiv 10= -((-x)/10):=by
  rw[show x= -(-x)from by omega,Int.neg_tdiv,Int.tdiv_eq_ediv_of_nonneg (by omega)];simp
 rw[e];omega
theorem QFC (s:ByteArray) (k:Nat) (h:k<s.size) (ha:s.data.toList.all digB=true):48≤s[k].toNat∧s[k].toNat≤57:=by
 have:=List.all_eq_true.1 ha _ (QBk s k h);unfold digB at this;simpa using this
def Zn (l:List UInt8):Int:=if Cd l≤KQ then -(Cd l:Int)else 0
def Zo (l:List UInt8):Bool:=decide (Cd l≤KQ)
def Tm (x:Int) (y:Bool) (w:World) (e:Ending) (w':World):Prop:=e=.returned (.tuple #[.int .i64 x,.bool y])∧Below w.heap.size w w'
theorem QZ {x x':Int} {y y':Bool} {w w':World} {e:Ending} (he:e=.returned (.tuple #[.int .i64 x',.bool y'])) (hx:x'=x) (hy:y'=y) (hb:Below w.heap.size w w'):Tm x y w e w':=by
 subst hx;subst hy;exact⟨he,hb⟩
theorem QBo {l:List UInt8} (h:KQ<Cd l):(0=Zn l)∧(false=Zo l):=by
 unfold Zn Zo;rw[if_neg (by omega)];simp;omega
theorem Xw {l:List UInt8} (h:Cd l≤KQ):(-(Cd l:Int)=Zn l)∧(true=Zo l):=by
 unfold Zn Zo;rw[if_pos h];simp[h]
theorem QDi (m d:Nat) (h1:48≤d) (h2:d≤57) (hm:m≤9223372036854775808) (hf:¬ -(m:Int)*10< -9223372036854775808+((d:Int)-48)):
  wrap64 (wrap64 (-(m:Int)*10)-((d:Int)-48))= -((m*10+(d-48):Nat):Int):=by
 rw[IntWalk.wrap64_in (-(m:Int)*10) (by omega),IntWalk.wrap64_in _ (by omega)];omega
set_option maxHeartbeats 1000000 in
theorem Wy (s:ByteArray) (w:World) (hall:s.data.toList.all digB=true):
  Calls Tryz.prog 215 #[.string s] w (Tm (Zn s.data.toList) (Zo s.data.toList) w):=by
 have HA:=AA hall;clear hall;go_enter Tryz.func215,Tryz.ntmps215
 go_wp2
 go_loopw [4] (fun n w'=>∃pos:Nat,w'=w.iter s pos∧n=.int .i64 (-(Cd (s.data.toList.take pos):Int))∧Cd (s.data.toList.take pos)≤9223372036854775808) (fun _ w'=>s.size-w'.iterPos w.heap.size)
 case atStart=>exact⟨0,rfl,rfl,Nat.zero_le _⟩
 case round=>
  obtain⟨pos,rfl,rfl,ho⟩:=hrel;by_cases hp:pos<s.size
  ·have hd:=QFC s pos hp HA.out;have hnx:∀ty,(Instr.next (.pointer (some ⟨w.heap.size,0,none⟩)) true ty).run Tryz.prog (w.iter s pos)=_:=fun ty=>run_next_ascii w s pos ty hp (by omega)
   have HS:=AA (QY s pos hp);have HL:=AA (Ti s.data.toList (pos+1));generalize(s[pos]'hp)=c at *
   generalize hm:Cd (s.data.toList.take pos)=m at *;clear hm;obtain⟨d,hdd⟩:∃d:Nat,c.toNat=d:=⟨_,rfl⟩
   rw[hdd]at hd hnx;have HC:=AA hdd;clear hdd;by_cases hf: -(m:Int)*10< -9223372036854775808+((d:Int)-48)
   ·have hq: -(m:Int)<(-9223372036854775808+((d:Int)-48)).tdiv 10:=(Xv _ _ (by omega)).2 hf;have HR:=AA (QBo (l:=s.data.toList) (by have h1:=HS.out;have h2:=HL.out;have h3:=HC.out;unfold KQ;omega));clear hf
    go_wp2
    go_ret2
    exact QZ rfl HR.out.1 HR.out.2 (GE _ _ _)
   ·have hq:¬ -(m:Int)<(-9223372036854775808+((d:Int)-48)).tdiv 10:=fun h=>hf ((Xv _ _ (by omega)).1 h)
    have HE:=AA (QDi m d hd.1 hd.2 ho hf);have HN:Hid (Cd (List.take (pos+1) s.data.toList)=m*10+(d-48)):=by
     have h1:=HS.out;have h3:=HC.out;rw[h3]at h1;exact AA h1
    have HM:Hid (m*10+(d-48)≤9223372036854775808):=AA (by omega);clear hf
    go_wp2
    go_roundw;case rel=>exact⟨pos+1,rfl,by rw[HE.out,HN.out],by rw[HN.out];exact HM.out⟩
    case measure=>simp;omega
  ·have hnx:∀ty,(Instr.next (.pointer (some ⟨w.heap.size,0,none⟩)) true ty).run Tryz.prog (w.iter s pos)=_:=fun ty=>run_next_end w s pos ty hp
   have ht:=O3 s pos hp;rw[ht]at ho⊢;have HR:=AA (Xw (l:=s.data.toList) ho);clear ht
   go_wp2
   go_ret2
   exact QZ rfl HR.out.1 HR.out.2 (GE _ _ _)
theorem Zp {l:List UInt8} (h:FH l=true):l.all digB=true:=by
 unfold FH at h;simp only[Bool.and_eq_true]at h;exact h.1.2
theorem Qa (d:List UInt8) (w:World):
  Calls Tryz.prog 214 #[.string ⟨d.toArray⟩] w fun e w'=>e=.returned (.bool (FH d))∧Below w.heap.size w w':=by
 have h:=Zm ⟨d.toArray⟩ w;simpa using h
theorem Wz (d:List UInt8) (w:World) (h:FH d=true):
  Calls Tryz.prog 215 #[.string ⟨d.toArray⟩] w (Tm (Zn d) (Zo d) w):=by
 have h:=Wy ⟨d.toArray⟩ w (by simpa using Zp h);simpa using h
theorem Zq (l:List UInt8) (h:l≠[48]):MF l=
  if FH (Lib.trimPrefix l [45])=false then(0,8)
  else if KQ<Cd (Lib.trimPrefix l [45])∨(Lib.hasPrefix l [45]=false∧Cd (Lib.trimPrefix l [45])=KQ)then(0,4)
  else if Lib.hasPrefix l [45]=true then(-(Cd (Lib.trimPrefix l [45]):Int),0)else((Cd (Lib.trimPrefix l [45]):Int),0):=by
 have e1:(l.head?==some 45)=Lib.hasPrefix l [45]:=by
  cases l with
  |nil=>rfl
  |cons c l=>simp[Lib.hasPrefix,List.isPrefixOf];rw[Bool.eq_iff_iff];simp;exact eq_comm
 have e2:(if Lib.hasPrefix l [45]=true then l.tail else l)=Lib.trimPrefix l [45]:=by
  unfold Lib.trimPrefix;simp
 unfold MF;rw[if_neg h];simp only[e1,e2]
theorem JC {x y:Int} {p:Int×Int} {w w':World} {e:Ending} (he:e=.returned (.tuple #[.int .i64 x,.int .i64 y])) (h:p=(x,y)) (hb:Below w.heap.size w w'):Ww p.1 p.2 w e w':=by
 subst h;exact⟨he,hb⟩
set_option maxHeartbeats 1000000 in
theorem W6 (s:ByteArray) (w:World):
  Calls Tryz.prog 179 #[.string s] w (Ww (MF s.data.toList).1 (MF s.data.toList).2 w):=by
 by_cases hz:s.data.toList=[48]
 ·obtain rfl:s=⟨#[48]⟩:=by cases s with|mk d=>cases d with|mk l=>simp at hz;subst hz;rfl
  go_enter Tryz.func179,Tryz.ntmps179
  go_wp2
  go_ret2
  exact Zk rfl rfl (Below.refl _ _)
 ·have hz1:(s.toList==[48])=false:=by rw[ByteArray.toList_eq];simpa using hz
  have HP:=AA (Zq _ hz);clear hz;have hlist:(ByteArray.mk #[45]).data.toList=[45]:=rfl;generalize hm:Lib.hasPrefix s.data.toList [45]=m at HP;generalize hd:Lib.trimPrefix s.data.toList [45]=d at HP;have Hm:=AA hm;have Hd:=AA hd;clear hm hd hlist;go_enter Tryz.func179,Tryz.ntmps179;go_wp2_with fail
  refine(Tryz.strings_CutPrefix s ⟨#[45]⟩ _).mono ?_;rintro e w' ⟨rfl,rfl⟩;rw[show(ByteArray.mk #[45]).data.toList=[45]from rfl,Hm.out,Hd.out];by_cases hp:FH d=true
  ·have HB:=AA hp;go_wp2_with fail
   refine(Qa d _).mono ?_;rintro e w1 ⟨rfl,hb1⟩;rw[HB.out];clear hp;go_wp2_with fail
   refine(Wz d _ HB.out).mono ?_;rintro e w2 ⟨rfl,hb2⟩;have HP2:=HP.out;rw[if_neg (by rw[HB.out];simp)]at HP2;by_cases hv:Cd d≤KQ
   ·have hbel:=Xw hv;rw[←hbel.1,←hbel.2];clear hbel;cases m with
    |true=>
     rw[if_neg (by simp;omega),if_pos rfl]at HP2;have HR:=AA HP2;clear HP2 hv
     go_wp2
     go_ret2
     exact JC rfl HR.out (AC hb1 hb2)
    |false=>
     by_cases he:Cd d=KQ
     ·rw[if_pos (.inr ⟨rfl,he⟩)]at HP2;have HR:=AA HP2;have hq:(-(Cd d:Int)== -9223372036854775808)=true:=beq_iff_eq.2 (by unfold KQ at he;omega);clear HP2 hv he
      go_wp2
      go_ret2
      exact JC rfl HR.out (AC hb1 hb2)
     ·rw[if_neg (by simp;omega),if_neg (by simp)]at HP2;have hq:(-(Cd d:Int)== -9223372036854775808)=false:=beq_eq_false_iff_ne.2 (by unfold KQ at he;omega);have HR:=AA HP2;have HW:Hid (wrap64 (Cd d:Int)=(Cd d:Int)):=AA (IntWalk.wrap64_in _ (by unfold KQ at hv he;omega));clear HP2 hv he
      go_wp2
      go_ret2
      exact JC rfl (by rw[HR.out,HW.out]) (AC hb1 hb2)
   ·have hbel:=QBo (l:=d) (by omega);rw[←hbel.1,←hbel.2];clear hbel;rw[if_pos (.inl (by omega))]at HP2;have HR:=AA HP2;clear HP2 hv
    go_wp2
    go_ret2
    exact JC rfl HR.out (AC hb1 hb2)
  ·have HB:Hid (FH d=false):=AA (by simpa using hp);clear hp;go_wp2_with fail
   refine(Qa d _).mono ?_;rintro e w1 ⟨rfl,hb1⟩;rw[HB.out];have HR:Hid (MF s.data.toList=(0,8)):=AA (by rw[HP.out,if_pos HB.out])
   go_wp2
   go_ret2
   exact⟨by rw[HR.out];rfl,hb1⟩
end Go.Proofs.YthfkpalfopdmhaaGreatDoor
namespace Go.Proofs.YthfkpalfopdmhaaGreatDoor
open Go
def BV (l:List UInt8):Prop:=∀c∈l,c≠10
theorem BV.nil:BV []:=fun c h=>by cases h
theorem BV.app {a b:List UInt8} (h:BV a) (k:BV b):BV (a++b):=fun c hc=>by
 rcases List.mem_append.1 hc with hc|hc
 ·exact h c hc
 ·exact k c hc
theorem BV.cons {c:UInt8} {l:List UInt8} (h:c≠10) (k:BV l):BV (c::l):=fun d hd=>by
 rcases List.mem_cons.1 hd with rfl|hd
 ·exact h
 ·exact k d hd
theorem OH {l:List UInt8} {p:UInt8→Bool} (hp:p 10=false) (h:l.all p=true):BV l:=fun c hc e=>by
 subst e;have:=List.all_eq_true.1 h _ hc;rw[hp]at this;cases this
theorem Ot {l:List UInt8} (h:nameB l=true):BV l:=by
 unfold nameB at h;simp only[Bool.and_eq_true]at h;exact OH (p:=wrdB) (by decide) h.1.2
theorem Xz {n:Int} (h:0≤n):BV (Lib.itoa n):=by
 obtain⟨u,rfl⟩:∃u:Nat,n=u:=⟨n.toNat,by omega⟩
 rw[Lib.itoa_nonneg];exact OH (p:=digB) (by decide) (Sj u).1
theorem X0 (k:Nat):BV (A7 k):=by
 by_cases h:k<16
 ·have:∀k:Fin 16,(A7 k).all (fun c=>c != 10)=true:=by decide
  exact OH (p:=fun c=>c != 10) (by decide) (this ⟨k,h⟩)
 ·unfold A7;rw[List.getD_eq_getElem?_getD,List.getElem?_eq_none (by show 16≤k;omega)];exact BV.nil
theorem QB2 (x:Ex):∀b,JY x→BV (AZ b x):=by
 induction x with
 |leaf a=>
  intro b h;have hn:CN a=true:=Ij h;have ho:BG a.op=some 0:=h.1;unfold AZ;unfold CN at hn;split
  ·rename_i h1
   rw[if_pos h1]at hn;simp only[Bool.and_eq_true,decide_eq_true_eq]at hn;exact Xz hn.2.1.1
  ·rename_i h1
   rw[if_neg h1]at hn;by_cases h2:a.op=2
   ·rw[if_pos h2]at hn;simp only[Bool.and_eq_true,decide_eq_true_eq]at hn;exact Ot hn.2.2
   ·rw[if_neg h2]at hn;simp only[Bool.and_eq_true,decide_eq_true_eq,List.isEmpty_iff]at hn;rw[hn.2.2];exact BV.nil
 |un a x ih=>
  intro b h;exact(X0 _).app (ih true (Oh h))
 |bin a x y i1 i2=>
  intro b h;have k1:=i1 true (Kp h).1;have k2:=i2 true (Kp h).2;have hm:BV (AZ true x++[32]++A7 a.op.toNat++[32]++AZ true y):=
   ((((k1.app (BV.cons (by decide) BV.nil)).app (X0 _)).app (BV.cons (by decide) BV.nil)).app k2)
  unfold AZ;split
  ·exact((BV.cons (by decide) BV.nil).app hm).app (BV.cons (by decide) BV.nil)
  ·exact hm
theorem VQ (L:List Nod):BV (Bi L):=by
 cases h:BZ L with
 |false=>rw[UY h];exact BV.nil
 |true=>
  obtain⟨x,rfl,h1,h2,h3,h4,h5⟩:=Gs h;rw[h4];exact QB2 x false h1
theorem Qh (k:Int):BV (Jr k):=by
 unfold Jr;generalize k.toNat=j;by_cases h:j<15
 ·have:∀k:Fin 15,(CO.getD k []).all (fun c=>c != 10)=true:=by decide
  exact OH (p:=fun c=>c != 10) (by decide) (this ⟨j,h⟩)
 ·rw[List.getD_eq_getElem?_getD,List.getElem?_eq_none (by show 15≤j;omega)];exact BV.nil
theorem VR {b:Bool} {l:List UInt8} (h:(if b then nameB l else l.isEmpty)=true):BV l:=by
 cases b with
 |true=>exact Ot h
 |false=>
  have h':l.isEmpty=true:=h;simp only[List.isEmpty_iff]at h';rw[h'];exact BV.nil
theorem QDl {s:Stm} (h:Dy s=true):BV (I4 s):=by
 have hk:=h;unfold Dy at hk;simp only[Bool.and_eq_true,decide_eq_true_eq]at hk;obtain⟨⟨⟨⟨⟨⟨⟨⟨h1,h2⟩,h3⟩,h4⟩,h5⟩,h6⟩,h7⟩,h8⟩,h9⟩:=hk;have hr:BV s.reg:=VR h5;have hn:BV s.name:=VR h6;have he:=VQ s.e;have hf:=VQ s.f;have hi:BV (Lib.itoa s.n):=by
  apply Xz;split at h9
  ·simp only[Bool.and_eq_true,decide_eq_true_eq]at h9;omega
  ·simp only[decide_eq_true_eq]at h9;omega
 have e3:BV [32,61,32]:=BV.cons (by decide) (BV.cons (by decide) (BV.cons (by decide) BV.nil));have e2:BV [44,32]:=BV.cons (by decide) (BV.cons (by decide) BV.nil);have b32:(32:UInt8)≠10:=by decide
 unfold I4;split
 ·exact hr.app (e3.app he)
 split
 ·exact(Qh _).app (BV.cons b32 (hr.app (e3.app hn)))
 split
 ·exact(Qh _).app (BV.cons b32 (hn.app (e3.app he)))
 split
 ·exact(Qh _).app (BV.cons b32 (hr.app (e3.app (hn.app (e2.app (he.app (e2.app hf)))))))
 split
 ·exact(Qh _).app (BV.cons b32 he)
 split
 ·exact(Qh _).app (BV.cons b32 hi)
 split
 ·exact Qh _
 ·exact(Qh _).app (BV.cons b32 hn)
def DZ (r:List UInt8):List UInt8:=r++[10]
def DW (u v:List UInt8):Prop:=∃rows:List (List UInt8),(∀r∈rows,BV r)∧u=rows.flatMap DZ∧v=rows.flatMap (fun r=>[32,32]++DZ r)
theorem DW.nil:DW [] []:=⟨[],fun r h=>(by cases h),rfl,rfl⟩
theorem DW.app {u v u' v':List UInt8} (h:DW u v) (k:DW u' v'):DW (u++u') (v++v'):=by
 obtain⟨r1,a1,rfl,rfl⟩:=h;obtain⟨r2,a2,rfl,rfl⟩:=k;refine⟨r1++r2,fun r hr=>?_,(List.flatMap_append).symm,(List.flatMap_append).symm⟩;rcases List.mem_append.1 hr with hr|hr
 ·exact a1 r hr
 ·exact a2 r hr
theorem DW.one {r:List UInt8} (h:BV r):DW (r++[10]) (32::32::(r++[10])):=
 ⟨[r],fun q hq=>(by rw[List.mem_singleton.1 hq];exact h),by simp[DZ],by simp[DZ]⟩
theorem DW.tq {u v u' v':List UInt8} (h:DW u v) (e1:u'=u) (e2:v'=v):DW u' v':=by rw[e1,e2];exact h
theorem VS (b:Bk):∀ind,BV ind→b.flat.all Dy=true→DW (Bw ind b) (Bw (32::32::ind) b):=by
 induction b with
 |nil=>intro ind _ _;exact DW.nil
 |cons s b e r i1 i2 i3=>
  intro ind hi hf;simp only[Bk.flat,List.all_cons,List.all_append,Bool.and_eq_true]at hf;obtain⟨h1,h2,h3,h4⟩:=hf;have hh:=QDl h1;have b32:(32:UInt8)≠10:=by decide
  have hi2:BV (ind++[32,32]):=hi.app (BV.cons b32 (BV.cons b32 BV.nil));have j1:=i1 _ hi2 h2;have j2:=i2 _ hi2 h3;have j3:=i3 _ hi h4;simp only[Bw];by_cases hb:GT s.kind
  ·rw[if_pos hb,if_pos hb];have o1:=DW.one (hi.app (hh.app (BV.cons b32 (BV.cons (by decide) BV.nil):BV [32,123])));have o3:=DW.one (hi.app (BV.cons (by decide) BV.nil:BV [125]));by_cases he:0<e.count
   ·rw[if_pos he,if_pos he];have o2:=DW.one (hi.app (OH (p:=fun c=>c != 10) (by decide) (by decide):BV ([125,32]++FU++[32,123])));refine(o1.app (j1.app ((o2.app j2).app (o3.app j3)))).tq ?_ ?_<;>simp
   ·rw[if_neg he,if_neg he];refine(o1.app (j1.app (o3.app j3))).tq ?_ ?_<;>simp
  ·rw[if_neg hb,if_neg hb];have o1:=DW.one (hi.app (hh.app (BV.cons (by decide) BV.nil:BV [59])));refine(o1.app j3).tq ?_ ?_<;>simp
theorem VT:∀l:List (List UInt8),l.all nameB=true→BV (namesT l)
 |[],_=>BV.nil
 |[c],h=>by
  simp only[List.all_cons,Bool.and_eq_true]at h;exact Ot h.1
 |c::d::l,h=>by
  rw[List.all_cons,Bool.and_eq_true]at h;exact(Ot h.1).app ((BV.cons (by decide) (BV.cons (by decide) BV.nil)).app (VT (d::l) h.2))
def QDm (l:List (List UInt8)):List UInt8:=if l.isEmpty then[]else Ir++(32::(namesT l++[59,10]))
theorem VU {t:Thr} {b:Bool} (h:Bh b t=true):DW (QDm t.regs++showS t.body) (Rh t.regs++bodyT t.body):=by
 unfold Bh at h;simp only[Bool.and_eq_true]at h;obtain⟨⟨⟨_,_⟩,hs⟩,hr⟩:=h;refine DW.app ?_ ?_
 ·unfold QDm Rh;cases hl:t.regs with
  |nil=>exact DW.nil
  |cons c l=>
   rw[hl]at hr;have o:=DW.one ((OH (p:=fun c=>c != 10) (by decide) (by decide):BV Ir).app (BV.cons (by decide) ((VT _ hr).app (BV.cons (by decide) BV.nil)):BV (32::(namesT (c::l)++[59]))));refine o.tq ?_ ?_<;>simp
 ·obtain⟨k,hk,hg,_,_,_,ht⟩:=DX hs;rw[←hk,Ko hg.1 (by rw[hk];exact hs)];unfold bodyT;rw[hk,ht];exact VS k [] BV.nil hg.2
theorem SA {x:Stm} (h:Dy x=true):GW x:=by
 obtain⟨h1,h2,_,_,h5,h6,_⟩:=Xf h;exact⟨by omega,by omega,h5.1,h6.1,h5.2,h6.2⟩
theorem NT {L:List Stm} (h:CH L=true):∀x∈L,GW x:=by
 obtain⟨b,rfl,g1,_⟩:=DX h;exact fun x hx=>SA (List.all_eq_true.1 g1.2 x hx)
end Go.Proofs.YthfkpalfopdmhaaGreatDoor
namespace Go.Proofs.YthfkpalfopdmhaaGreatDoor
open Go.RowKit
set_option maxRecDepth 100000 in
set_option maxHeartbeats 4000000 in
theorem UC (p:Bool) {v1 v2:Value} {L M:List Cel} {w:World} {B B':Nat} (h1:CX w B v1 L) (h2:CX w B' v2 M) (hl:L.length≤10000):
  Calls Tryz.prog 30 #[v1,v2,.bool p] w (UB (Ad (B8 p) L M) w):=by
 obtain⟨A,c,rfl,hc,_,hr1⟩:=h1.reads;obtain⟨A',c',rfl,hc',_,hr2⟩:=h2.reads;have HR1:=AA hr1;have HR2:=AA hr2;clear hr1 hr2 h1 h2;by_cases hL:L.length=M.length
 ·rw[←hL];have HL:=AA hL;have hkM:∀k,k<L.length→k<M.length:=by rw[hL];exact fun _ h=>h
  have HM:=AA hkM;clear hL hkM;go_enter Tryz.func30,Tryz.ntmps30;go_wp2_with fail
  go_loopw [7] (fun i wr=>∃k n:Nat,k≤L.length∧i=.int .i64 k∧wr=w.drewN n∧Ad (B8 p) (L.take k) (M.take k)=true) (fun i _=>L.length-(intOf i).toNat)
  case atStart=>exact⟨0,0,Nat.zero_le _,rfl,rfl,rfl⟩
  case round=>
   obtain⟨k,n,hk,rfl,rfl,hs⟩:=hrel;have HS:=AA hs;clear hs;by_cases hlt:k<L.length
   ·have hkm:=HM.out k hlt;have ha:L[k]?=some L[k]:=List.getElem?_eq_getElem hlt;have hb:M[k]?=some (M[k]'hkm):=List.getElem?_eq_getElem hkm
    generalize L[k]=a at *;generalize M[k]'hkm=b at *
    obtain⟨g,rfl,_,hg,x0,x1,x2⟩:=HR1.out k a ha;obtain⟨g',rfl,_,hg',y0,y1,y2⟩:=HR2.out k b hb;have HN:=AA (fun h=>DN (q:=B8 p) ha hb h);have HY:=AA (CB (q:=B8 p) ha hb);clear ha hb;cases e1:(a.name==b.name)with
    |false=>
     have HQ:Hid (B8 p a b=false):=AA (by unfold B8;simp at e1;simp[e1]);go_wp2_with fail
     go_quiet (fail)
     go_wp2_with fail
     go_ret;exact⟨AH (HN.out HQ.out).symm,I1 _ _ _⟩
    |true=>
     cases e2:(a.n != b.n)with
     |true=>
      have HQ:Hid (B8 p a b=false):=AA (by unfold B8;simp at e2;simp[e2]);go_wp2_with fail
      go_quiet (fail)
      go_wp2_with fail
      go_ret;exact⟨AH (HN.out HQ.out).symm,I1 _ _ _⟩
     |false=>
      cases p with
      |false=>
       have HQ:Hid (B8 false a b=true):=AA (by unfold B8;simp at e1 e2;simp[e1,e2]);go_wp2_with fail
       go_quiet (fail)
       go_wp2_with fail
       go_roundw;case rel=>exact⟨k+1,_,by omega,by go_num,rfl,by rw[HY.out,HS.out,HQ.out];rfl⟩
       case measure=>simp[intOf];omega
      |true=>
       cases e3:(a.pl != b.pl)with
       |true=>
        have HQ:Hid (B8 true a b=false):=AA (by unfold B8;simp at e3;simp[e3]);go_wp2_with fail
        go_quiet (fail)
        go_wp2_with fail
        go_ret;exact⟨AH (HN.out HQ.out).symm,I1 _ _ _⟩
       |false=>
        have HQ:Hid (B8 true a b=true):=AA (by unfold B8;simp at e1 e2 e3;simp[e1,e2,e3]);go_wp2_with fail
        go_quiet (fail)
        go_wp2_with fail
        go_roundw;case rel=>exact⟨k+1,_,by omega,by go_num,rfl,by rw[HY.out,HS.out,HQ.out];rfl⟩
        case measure=>simp[intOf];omega
   ·have HQ:=AA (Cf (by omega) HL.out HS.out);go_wp2_with fail
    go_ret;exact⟨AH HQ.out.symm,⟨_,rfl⟩⟩
 ·have HQ:=AA (Ce (q:=B8 p) hL);have hd:((L.length:Int) != (M.length:Int))=true:=by simp;omega
  clear hL;go_enter Tryz.func30,Tryz.ntmps30;go_wp2_with fail
  go_ret;exact⟨AH HQ.out.symm,⟨0,rfl⟩⟩
end Go.Proofs.YthfkpalfopdmhaaGreatDoor
