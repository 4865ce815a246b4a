/- Texts of the walk, packed. -/
import Derived.Test.YthfkpalfopdmhaaGreatDoorY20
import Derived.Test.YthfkpalfopdmhaaGreatDoorY06
import Derived.Test.YthfkpalfopdmhaaGreatDoorY13
import Derived.Test.YthfkpalfopdmhaaGreatDoorY02
import Derived.Test.YthfkpalfopdmhaaGreatDoorY11
import Derived.Lib.AppendIntMem
import Derived.Test.YthfkpalfopdmhaaGreatDoorY00
namespace Go.Proofs.YthfkpalfopdmhaaGreatDoor
theorem Xg {L:List Tok} {i:Nat} {s t:List UInt8} (h:isB L i s=true) (h2:isB L i t=true):s=t:=by
 unfold isB at h h2
 simp only[Int.natCast_nonneg,Int.toNat_natCast]at h h2
 cases hl:L[i]? with
 |none=>simp[hl]at h
 |some a=>
  simp[hl]at h h2
  rw[←h.2,←h2.2]
end Go.Proofs.YthfkpalfopdmhaaGreatDoor
namespace Go.Proofs.YthfkpalfopdmhaaGreatDoor
open Go.RowKit
theorem QA7 {L:List Tok} {i:Nat} {s:List UInt8} {t:Tok} (h:isB L i s=true) (ht:L[i]?=some t):t.text=s:=by
 unfold isB at h
 rw[Int.toNat_natCast,ht]at h
 simp at h
 exact h.2
def Ww (x y:Int) (w:World) (e:Ending) (w':World):Prop:=e=.returned (.tuple #[.int .i64 x,.int .i64 y])∧Below w.heap.size w w'
theorem Zl {x x' y:Int} {w w':World} {e:Ending} (he:e=.returned (.tuple #[.int .i64 x',.int .i64 y])) (h:x'=x) (hb:Below w.heap.size w w'):Ww x y w e w':=by
 subst h;exact⟨he,hb⟩
def FH (l:List UInt8):Bool:=!l.isEmpty&&l.all digB&&l.head? != some 48
theorem Wx (l:List UInt8):∀n,n≤I0 n l:=by
 induction l with
 |nil=>intro n;exact Nat.le_refl _
 |cons c l ih=>
  intro n
  have h:=ih (n*10+(c.toNat-48))
  show n≤I0 (n*10+(c.toNat-48)) l
  omega
theorem Td (l:List UInt8) (k:Nat):Cd (l.take k)≤Cd l:=by
 have h:Cd l=I0 (Cd (l.take k)) (l.drop k):=by
  rw[show Cd l=Cd (l.take k++l.drop k)from by rw[List.take_append_drop]]
  exact KO 0 _ _
 rw[h];exact Wx _ _
theorem QBm (s:ByteArray) (k:Nat) (h:k<s.size):s[k]∈s.data.toList:=by
 have:s[k]=s.data.toList[k]'(by simpa using h):=rfl
 rw[this];exact List.getElem_mem _
theorem VH (s:ByteArray) (h:0<s.size):s.data.toList.head?=some s[0]:=by
 rw[List.head?_eq_getElem?,List.getElem?_eq_getElem (by simpa using h)];rfl
theorem MC (s:ByteArray) (k:Nat) (h:k<s.size) (hd:digB s[k]=false):FH s.data.toList=false:=by
 have:s.data.toList.all digB=false:=by
  rw[List.all_eq_false];exact⟨_,QBm s k h,by simp[hd]⟩
 simp[FH,this]
theorem VI (s:ByteArray) (h:0<s.size) (hd:s[0]=48):FH s.data.toList=false:=by
 simp[FH,VH s h,hd]
def QBn (s:ByteArray) (k:Nat):Prop:=(s.data.toList.take k).all digB=true∧(0<k→s.data.toList.head?≠some 48)
theorem Zm (s:ByteArray):QBn s 0:=⟨by simp,fun h=>absurd h (by omega)⟩
theorem Rr (s:ByteArray) (k:Nat) (h:k<s.size) (ho:QBn s k) (hd:digB s[k]=true) (hz:k=0→s[k]≠48):QBn s (k+1):=by
 refine⟨by rw[take_snoc s k h,List.all_append,ho.1];simp[hd],fun _=>?_⟩
 by_cases hk:k=0
 ·subst hk;rw[VH s h];intro e;exact hz rfl (by simpa using e)
 ·exact ho.2 (by omega)
theorem QBo (s:ByteArray) (k:Nat) (h:¬k<s.size) (ho:QBn s k):FH s.data.toList=!s.data.toList.isEmpty:=by
 have h1:=ho.1
 rw[O0 s k h]at h1
 unfold FH
 rw[h1]
 by_cases hs:0<s.size
 ·have h2:=ho.2 (by omega)
  simp[h2]
 ·have:s.data.toList=[]:=by
   have:s.data.toList.length=0:=by
    have e:s.data.toList.length=s.size:=rfl
    omega
   exact List.length_eq_zero_iff.1 this
  simp[this]
def KN:Nat:=9223372036854775808
def MD (l:List UInt8):Int×Int:=
 if l=[48]then(0,0)
 else
  let minus:=l.head?==some 45
  let d:=if minus then l.tail else l
  if FH d=false then(0,8)
  else if KN<Cd d∨(minus=false∧Cd d=KN)then(0,4)
  else if minus then(-(Cd d:Int),0)else((Cd d:Int),0)
theorem GE (w:World) (s:ByteArray) (pos:Nat):Below w.heap.size w (w.iter s pos):=(Below.refl _ _).alloc (Nat.le_refl _) _
theorem Tf {c:UInt8} (h:c.toNat<48∨57<c.toNat):digB c=false:=by
 unfold digB
 rcases h with h|h
 ·simp;omega
 ·simp;omega
theorem QBp {c:UInt8} (h1:48≤c.toNat) (h2:c.toNat≤57):digB c=true:=by
 unfold digB;simp;omega
theorem QGm {c:UInt8} {n:UInt8} (h:c.toNat=n.toNat):c=n:=UInt8.toNat_inj.1 h
set_option maxHeartbeats 1000000 in
theorem Zn (s:ByteArray) (w:World):
  Calls Tryz.prog 214 #[.string s] w fun e w'=>e=.returned (.bool (FH s.data.toList))∧Below w.heap.size w w':=by
 go_enter Tryz.func214,Tryz.ntmps214
 go_wp2
 go_loopw [3] (fun _ w'=>∃pos:Nat,w'=w.iter s pos∧QBn s pos) (fun _ w'=>s.size-w'.iterPos w.heap.size)
 case atStart=>exact⟨0,rfl,Zm s⟩
 case round=>
  obtain⟨pos,rfl,ho⟩:=hrel
  have HO:=AA ho
  clear ho
  by_cases hp:pos<s.size
  ·by_cases ha:(s[pos]'hp).toNat<128
   ·have hnx:∀ty,(Instr.next (.pointer (some ⟨w.heap.size,0,none⟩)) true ty).run Tryz.prog (w.iter s pos)=_:=fun ty=>run_next_ascii w s pos ty hp ha
    generalize hc:(s[pos]'hp)=c at *
    have HC:=AA hc
    clear hc
    by_cases h1:(c.toNat:Int)<48
    ·have HB:=AA (MC s pos hp (by rw[HC.out];exact Tf (.inl (by omega))))
     go_wp2
     go_ret
     exact⟨AH HB.out.symm,GE _ _ _⟩
    ·by_cases h2:57<(c.toNat:Int)
     ·have HB:=AA (MC s pos hp (by rw[HC.out];exact Tf (.inr (by omega))))
      go_wp2
      go_ret
      exact⟨AH HB.out.symm,GE _ _ _⟩
     ·have HD:=AA (QBp (c:=c) (by omega) (by omega))
      by_cases h3:pos=0
      ·subst h3
       by_cases h4:c.toNat=48
       ·have HB:=AA (VI s hp (by rw[HC.out];exact QGm h4))
        have h5:((c.toNat:Int)==48)=true:=beq_iff_eq.2 (by omega)
        clear h4
        go_wp2
        go_ret
        exact⟨AH HB.out.symm,GE _ _ _⟩
       ·have h5:((c.toNat:Int)==48)=false:=beq_eq_false_iff_ne.2 (by omega)
        have HS:=AA (Rr s 0 hp HO.out (by rw[HC.out];exact HD.out) (fun _ e=>h4 (by rw[←HC.out,e];rfl)))
        clear h4
        go_wp2
        go_roundw
        case rel=>exact⟨1,rfl,HS.out⟩
        case measure=>simp;omega
      ·have h5:((pos:Int)==0)=false:=beq_eq_false_iff_ne.2 (by omega)
       have HS:=AA (Rr s pos hp HO.out (by rw[HC.out];exact HD.out) (fun e=>absurd e h3))
       clear h3
       go_wp2
       go_roundw
       case rel=>exact⟨pos+1,rfl,HS.out⟩
       case measure=>simp;omega
   ·have hnx:∀ty,(Instr.next (.pointer (some ⟨w.heap.size,0,none⟩)) true ty).run Tryz.prog (w.iter s pos)=_:=fun ty=>run_next_any w s pos ty hp
    have hh:=(decode_high s pos hp (by omega)).1
    have HB:=AA (MC s pos hp (Tf (.inr (by omega))))
    clear ha
    generalize(Utf8.decode s pos).1=r at *
    generalize(Utf8.decode s pos).2=q at *
    have h1:¬(r:Int)<48:=by omega
    have h2:57<(r:Int):=by omega
    go_wp2
    go_ret
    exact⟨AH HB.out.symm,GE _ _ _⟩
  ·have hnx:∀ty,(Instr.next (.pointer (some ⟨w.heap.size,0,none⟩)) true ty).run Tryz.prog (w.iter s pos)=_:=fun ty=>run_next_end w s pos ty hp
   have HB:=AA (QBo s pos hp HO.out)
   go_wp2
   go_ret
   refine⟨AH ?_,GE _ _ _⟩
   rw[HB.out,ByteArray.toList_eq]
theorem QV (s:ByteArray) (k:Nat) (h:k<s.size):Cd (s.data.toList.take (k+1))=Cd (s.data.toList.take k)*10+(s[k].toNat-48):=by
 rw[take_snoc s k h,Qv]
theorem Xv (x n:Int) (hx:x≤0):n<x.tdiv 10↔n*10<x:=by
 have e:x.tdiv 10= -((-x)/10):=by
  rw[show x= -(-x)from by omega,Int.neg_tdiv,Int.tdiv_eq_ediv_of_nonneg (by omega)]
  simp
 rw[e];omega
theorem QFD (s:ByteArray) (k:Nat) (h:k<s.size) (ha:s.data.toList.all digB=true):48≤s[k].toNat∧s[k].toNat≤57:=by
 have:=List.all_eq_true.1 ha _ (QBm s k h)
 unfold digB at this
 simpa using this
def Zo (l:List UInt8):Int:=if Cd l≤KN then -(Cd l:Int)else 0
def Zp (l:List UInt8):Bool:=decide (Cd l≤KN)
def Ti (x:Int) (y:Bool) (w:World) (e:Ending) (w':World):Prop:=e=.returned (.tuple #[.int .i64 x,.bool y])∧Below w.heap.size w w'
theorem QW {x x':Int} {y y':Bool} {w w':World} {e:Ending} (he:e=.returned (.tuple #[.int .i64 x',.bool y'])) (hx:x'=x) (hy:y'=y) (hb:Below w.heap.size w w'):Ti x y w e w':=by
 subst hx;subst hy;exact⟨he,hb⟩
theorem QBq {l:List UInt8} (h:KN<Cd l):(0=Zo l)∧(false=Zp l):=by
 unfold Zo Zp;rw[if_neg (by omega)];simp;omega
theorem Xw {l:List UInt8} (h:Cd l≤KN):(-(Cd l:Int)=Zo l)∧(true=Zp l):=by
 unfold Zo Zp;rw[if_pos h];simp[h]
theorem QDj (m d:Nat) (h1:48≤d) (h2:d≤57) (hm:m≤9223372036854775808) (hf:¬ -(m:Int)*10< -9223372036854775808+((d:Int)-48)):
  wrap64 (wrap64 (-(m:Int)*10)-((d:Int)-48))= -((m*10+(d-48):Nat):Int):=by
 rw[IntWalk.wrap64_in (-(m:Int)*10) (by omega),IntWalk.wrap64_in _ (by omega)]
 omega
set_option maxHeartbeats 1000000 in
theorem Wy (s:ByteArray) (w:World) (hall:s.data.toList.all digB=true):
  Calls Tryz.prog 215 #[.string s] w (Ti (Zo s.data.toList) (Zp s.data.toList) w):=by
 have HA:=AA hall
 clear hall
 go_enter Tryz.func215,Tryz.ntmps215
 go_wp2
 go_loopw [4] (fun n w'=>∃pos:Nat,w'=w.iter s pos∧n=.int .i64 (-(Cd (s.data.toList.take pos):Int))∧Cd (s.data.toList.take pos)≤9223372036854775808) (fun _ w'=>s.size-w'.iterPos w.heap.size)
 case atStart=>exact⟨0,rfl,rfl,Nat.zero_le _⟩
 case round=>
  obtain⟨pos,rfl,rfl,ho⟩:=hrel
  by_cases hp:pos<s.size
  ·have hd:=QFD s pos hp HA.out
   have hnx:∀ty,(Instr.next (.pointer (some ⟨w.heap.size,0,none⟩)) true ty).run Tryz.prog (w.iter s pos)=_:=fun ty=>run_next_ascii w s pos ty hp (by omega)
   have HS:=AA (QV s pos hp)
   have HL:=AA (Td s.data.toList (pos+1))
   generalize(s[pos]'hp)=c at *
   generalize hm:Cd (s.data.toList.take pos)=m at *
   clear hm
   obtain⟨d,hdd⟩:∃d:Nat,c.toNat=d:=⟨_,rfl⟩
   rw[hdd]at hd hnx
   have HC:=AA hdd
   clear hdd
   by_cases hf: -(m:Int)*10< -9223372036854775808+((d:Int)-48)
   ·have hq: -(m:Int)<(-9223372036854775808+((d:Int)-48)).tdiv 10:=(Xv _ _ (by omega)).2 hf
    have HR:=AA (QBq (l:=s.data.toList) (by have h1:=HS.out;have h2:=HL.out;have h3:=HC.out;unfold KN;omega))
    clear hf
    go_wp2
    go_ret2
    exact QW rfl HR.out.1 HR.out.2 (GE _ _ _)
   ·have hq:¬ -(m:Int)<(-9223372036854775808+((d:Int)-48)).tdiv 10:=fun h=>hf ((Xv _ _ (by omega)).1 h)
    have HE:=AA (QDj m d hd.1 hd.2 ho hf)
    have HN:Hid (Cd (List.take (pos+1) s.data.toList)=m*10+(d-48)):=by
     have h1:=HS.out;have h3:=HC.out;rw[h3]at h1;exact AA h1
    have HM:Hid (m*10+(d-48)≤9223372036854775808):=AA (by omega)
    clear hf
    go_wp2
    go_roundw
    case rel=>exact⟨pos+1,rfl,by rw[HE.out,HN.out],by rw[HN.out];exact HM.out⟩
    case measure=>simp;omega
  ·have hnx:∀ty,(Instr.next (.pointer (some ⟨w.heap.size,0,none⟩)) true ty).run Tryz.prog (w.iter s pos)=_:=fun ty=>run_next_end w s pos ty hp
   have ht:=O0 s pos hp
   rw[ht]at ho⊢
   have HR:=AA (Xw (l:=s.data.toList) ho)
   clear ht
   go_wp2
   go_ret2
   exact QW rfl HR.out.1 HR.out.2 (GE _ _ _)
theorem Zq {l:List UInt8} (h:FH l=true):l.all digB=true:=by
 unfold FH at h;simp only[Bool.and_eq_true]at h;exact h.1.2
theorem QX (d:List UInt8) (w:World):
  Calls Tryz.prog 214 #[.string ⟨d.toArray⟩] w fun e w'=>e=.returned (.bool (FH d))∧Below w.heap.size w w':=by
 have h:=Zn ⟨d.toArray⟩ w
 simpa using h
theorem Wz (d:List UInt8) (w:World) (h:FH d=true):
  Calls Tryz.prog 215 #[.string ⟨d.toArray⟩] w (Ti (Zo d) (Zp d) w):=by
 have h:=Wy ⟨d.toArray⟩ w (by simpa using Zq h)
 simpa using h
theorem Zr (l:List UInt8) (h:l≠[48]):MD l=
  if FH (Lib.trimPrefix l [45])=false then(0,8)
  else if KN<Cd (Lib.trimPrefix l [45])∨(Lib.hasPrefix l [45]=false∧Cd (Lib.trimPrefix l [45])=KN)then(0,4)
  else if Lib.hasPrefix l [45]=true then(-(Cd (Lib.trimPrefix l [45]):Int),0)else((Cd (Lib.trimPrefix l [45]):Int),0):=by
 have e1:(l.head?==some 45)=Lib.hasPrefix l [45]:=by
  cases l with
  |nil=>rfl
  |cons c l=>simp[Lib.hasPrefix,List.isPrefixOf];rw[Bool.eq_iff_iff];simp;exact eq_comm
 have e2:(if Lib.hasPrefix l [45]=true then l.tail else l)=Lib.trimPrefix l [45]:=by
  unfold Lib.trimPrefix;simp
 unfold MD
 rw[if_neg h]
 simp only[e1,e2]
theorem I9 {x y:Int} {p:Int×Int} {w w':World} {e:Ending} (he:e=.returned (.tuple #[.int .i64 x,.int .i64 y])) (h:p=(x,y)) (hb:Below w.heap.size w w'):Ww p.1 p.2 w e w':=by
 subst h;exact⟨he,hb⟩
set_option maxHeartbeats 1000000 in
theorem W6 (s:ByteArray) (w:World):
  Calls Tryz.prog 179 #[.string s] w (Ww (MD s.data.toList).1 (MD s.data.toList).2 w):=by
 by_cases hz:s.data.toList=[48]
 ·obtain rfl:s=⟨#[48]⟩:=by cases s with|mk d=>cases d with|mk l=>simp at hz;subst hz;rfl
  go_enter Tryz.func179,Tryz.ntmps179
  go_wp2
  go_ret2
  exact Zl rfl rfl (Below.refl _ _)
 ·have hz1:(s.toList==[48])=false:=by rw[ByteArray.toList_eq];simpa using hz
  have HP:=AA (Zr _ hz)
  clear hz
  have hlist:(ByteArray.mk #[45]).data.toList=[45]:=rfl
  generalize hm:Lib.hasPrefix s.data.toList [45]=m at HP
  generalize hd:Lib.trimPrefix s.data.toList [45]=d at HP
  have Hm:=AA hm
  have Hd:=AA hd
  clear hm hd hlist
  go_enter Tryz.func179,Tryz.ntmps179
  go_wp2_with fail
  refine(Tryz.strings_CutPrefix s ⟨#[45]⟩ _).mono ?_
  rintro e w' ⟨rfl,rfl⟩
  rw[show(ByteArray.mk #[45]).data.toList=[45]from rfl,Hm.out,Hd.out]
  by_cases hp:FH d=true
  ·have HB:=AA hp
   go_wp2_with fail
   refine(QX d _).mono ?_
   rintro e w1 ⟨rfl,hb1⟩
   rw[HB.out]
   clear hp
   go_wp2_with fail
   refine(Wz d _ HB.out).mono ?_
   rintro e w2 ⟨rfl,hb2⟩
   have HP2:=HP.out
   rw[if_neg (by rw[HB.out];simp)]at HP2
   by_cases hv:Cd d≤KN
   ·have hbel:=Xw hv
    rw[←hbel.1,←hbel.2]
    clear hbel
    cases m with
    |true=>
     rw[if_neg (by simp;omega),if_pos rfl]at HP2
     have HR:=AA HP2
     clear HP2 hv
     go_wp2
     go_ret2
     exact I9 rfl HR.out (AC hb1 hb2)
    |false=>
     by_cases he:Cd d=KN
     ·rw[if_pos (.inr ⟨rfl,he⟩)]at HP2
      have HR:=AA HP2
      have hq:(-(Cd d:Int)== -9223372036854775808)=true:=beq_iff_eq.2 (by unfold KN at he;omega)
      clear HP2 hv he
      go_wp2
      go_ret2
      exact I9 rfl HR.out (AC hb1 hb2)
     ·rw[if_neg (by simp;omega),if_neg (by simp)]at HP2
      have hq:(-(Cd d:Int)== -9223372036854775808)=false:=beq_eq_false_iff_ne.2 (by unfold KN at he;omega)
      have HR:=AA HP2
      have HW:Hid (wrap64 (Cd d:Int)=(Cd d:Int)):=AA (IntWalk.wrap64_in _ (by unfold KN at hv he;omega))
      clear HP2 hv he
      go_wp2
      go_ret2
      exact I9 rfl (by rw[HR.out,HW.out]) (AC hb1 hb2)
   ·have hbel:=QBq (l:=d) (by omega)
    rw[←hbel.1,←hbel.2]
    clear hbel
    rw[if_pos (.inl (by omega))]at HP2
    have HR:=AA HP2
    clear HP2 hv
    go_wp2
    go_ret2
    exact I9 rfl HR.out (AC hb1 hb2)
  ·have HB:Hid (FH d=false):=AA (by simpa using hp)
   clear hp
   go_wp2_with fail
   refine(QX d _).mono ?_
   rintro e w1 ⟨rfl,hb1⟩
   rw[HB.out]
   have HR:Hid (MD s.data.toList=(0,8)):=AA (by rw[HP.out,if_pos HB.out])
   go_wp2
   go_ret2
   exact⟨by rw[HR.out];rfl,hb1⟩
end Go.Proofs.YthfkpalfopdmhaaGreatDoor
namespace Go.Proofs.YthfkpalfopdmhaaGreatDoor
open Go
def BV (l:List UInt8):Prop:=∀c∈l,c≠10
theorem BV.nil:BV []:=fun c h=>by cases h
theorem BV.app {a b:List UInt8} (h:BV a) (k:BV b):BV (a++b):=fun c hc=>by
 rcases List.mem_append.1 hc with hc|hc
 ·exact h c hc
 ·exact k c hc
theorem BV.cons {c:UInt8} {l:List UInt8} (h:c≠10) (k:BV l):BV (c::l):=fun d hd=>by
 rcases List.mem_cons.1 hd with rfl|hd
 ·exact h
 ·exact k d hd
theorem OE {l:List UInt8} {p:UInt8→Bool} (hp:p 10=false) (h:l.all p=true):BV l:=fun c hc e=>by
 subst e
 have:=List.all_eq_true.1 h _ hc
 rw[hp]at this
 cases this
theorem On {l:List UInt8} (h:nameB l=true):BV l:=by
 unfold nameB at h
 simp only[Bool.and_eq_true]at h
 exact OE (p:=wrdB) (by decide) h.1.2
theorem Xz {n:Int} (h:0≤n):BV (Lib.itoa n):=by
 obtain⟨u,rfl⟩:∃u:Nat,n=u:=⟨n.toNat,by omega⟩
 rw[Lib.itoa_nonneg]
 exact OE (p:=digB) (by decide) (SY u).1
theorem X0 (k:Nat):BV (A7 k):=by
 by_cases h:k<16
 ·have:∀k:Fin 16,(A7 k).all (fun c=>c != 10)=true:=by decide
  exact OE (p:=fun c=>c != 10) (by decide) (this ⟨k,h⟩)
 ·unfold A7
  rw[List.getD_eq_getElem?_getD,List.getElem?_eq_none (by show 16≤k;omega)]
  exact BV.nil
theorem QB4 (x:Ex):∀b,JV x→BV (AZ b x):=by
 induction x with
 |leaf a=>
  intro b h
  have hn:CN a=true:=Ih h
  have ho:BG a.op=some 0:=h.1
  unfold AZ
  unfold CN at hn
  split
  ·rename_i h1
   rw[if_pos h1]at hn
   simp only[Bool.and_eq_true,decide_eq_true_eq]at hn
   exact Xz hn.2.1.1
  ·rename_i h1
   rw[if_neg h1]at hn
   by_cases h2:a.op=2
   ·rw[if_pos h2]at hn
    simp only[Bool.and_eq_true,decide_eq_true_eq]at hn
    exact On hn.2.2
   ·rw[if_neg h2]at hn
    simp only[Bool.and_eq_true,decide_eq_true_eq,List.isEmpty_iff]at hn
    rw[hn.2.2]
    exact BV.nil
 |un a x ih=>
  intro b h
  exact(X0 _).app (ih true (Oe h))
 |bin a x y i1 i2=>
  intro b h
  have k1:=i1 true (KY h).1
  have k2:=i2 true (KY h).2
  have hm:BV (AZ true x++[32]++A7 a.op.toNat++[32]++AZ true y):=
   ((((k1.app (BV.cons (by decide) BV.nil)).app (X0 _)).app (BV.cons (by decide) BV.nil)).app k2)
  unfold AZ
  split
  ·exact((BV.cons (by decide) BV.nil).app hm).app (BV.cons (by decide) BV.nil)
  ·exact hm
theorem VP (L:List Nod):BV (Bi L):=by
 cases h:BZ L with
 |false=>rw[UX h];exact BV.nil
 |true=>
  obtain⟨x,rfl,h1,h2,h3,h4,h5⟩:=Gq h
  rw[h4]
  exact QB4 x false h1
theorem Qe (k:Int):BV (Jo k):=by
 unfold Jo
 generalize k.toNat=j
 by_cases h:j<15
 ·have:∀k:Fin 15,(CO.getD k []).all (fun c=>c != 10)=true:=by decide
  exact OE (p:=fun c=>c != 10) (by decide) (this ⟨j,h⟩)
 ·rw[List.getD_eq_getElem?_getD,List.getElem?_eq_none (by show 15≤j;omega)]
  exact BV.nil
theorem VQ {b:Bool} {l:List UInt8} (h:(if b then nameB l else l.isEmpty)=true):BV l:=by
 cases b with
 |true=>exact On h
 |false=>
  have h':l.isEmpty=true:=h
  simp only[List.isEmpty_iff]at h'
  rw[h']
  exact BV.nil
theorem QDm {s:Stm} (h:Dy s=true):BV (I1 s):=by
 have hk:=h
 unfold Dy at hk
 simp only[Bool.and_eq_true,decide_eq_true_eq]at hk
 obtain⟨⟨⟨⟨⟨⟨⟨⟨h1,h2⟩,h3⟩,h4⟩,h5⟩,h6⟩,h7⟩,h8⟩,h9⟩:=hk
 have hr:BV s.reg:=VQ h5
 have hn:BV s.name:=VQ h6
 have he:=VP s.e
 have hf:=VP s.f
 have hi:BV (Lib.itoa s.n):=by
  apply Xz
  split at h9
  ·simp only[Bool.and_eq_true,decide_eq_true_eq]at h9;omega
  ·simp only[decide_eq_true_eq]at h9;omega
 have e3:BV [32,61,32]:=BV.cons (by decide) (BV.cons (by decide) (BV.cons (by decide) BV.nil))
 have e2:BV [44,32]:=BV.cons (by decide) (BV.cons (by decide) BV.nil)
 have b32:(32:UInt8)≠10:=by decide
 unfold I1
 split
 ·exact hr.app (e3.app he)
 split
 ·exact(Qe _).app (BV.cons b32 (hr.app (e3.app hn)))
 split
 ·exact(Qe _).app (BV.cons b32 (hn.app (e3.app he)))
 split
 ·exact(Qe _).app (BV.cons b32 (hr.app (e3.app (hn.app (e2.app (he.app (e2.app hf)))))))
 split
 ·exact(Qe _).app (BV.cons b32 he)
 split
 ·exact(Qe _).app (BV.cons b32 hi)
 split
 ·exact Qe _
 ·exact(Qe _).app (BV.cons b32 hn)
def DZ (r:List UInt8):List UInt8:=r++[10]
def DW (u v:List UInt8):Prop:=∃rows:List (List UInt8),(∀r∈rows,BV r)∧u=rows.flatMap DZ∧v=rows.flatMap (fun r=>[32,32]++DZ r)
theorem DW.nil:DW [] []:=⟨[],fun r h=>(by cases h),rfl,rfl⟩
theorem DW.app {u v u' v':List UInt8} (h:DW u v) (k:DW u' v'):DW (u++u') (v++v'):=by
 obtain⟨r1,a1,rfl,rfl⟩:=h
 obtain⟨r2,a2,rfl,rfl⟩:=k
 refine⟨r1++r2,fun r hr=>?_,(List.flatMap_append).symm,(List.flatMap_append).symm⟩
 rcases List.mem_append.1 hr with hr|hr
 ·exact a1 r hr
 ·exact a2 r hr
theorem DW.one {r:List UInt8} (h:BV r):DW (r++[10]) (32::32::(r++[10])):=
 ⟨[r],fun q hq=>(by rw[List.mem_singleton.1 hq];exact h),by simp[DZ],by simp[DZ]⟩
theorem DW.tq {u v u' v':List UInt8} (h:DW u v) (e1:u'=u) (e2:v'=v):DW u' v':=by rw[e1,e2];exact h
theorem VR (b:Bk):∀ind,BV ind→b.flat.all Dy=true→DW (Bw ind b) (Bw (32::32::ind) b):=by
 induction b with
 |nil=>intro ind _ _;exact DW.nil
 |cons s b e r i1 i2 i3=>
  intro ind hi hf
  simp only[Bk.flat,List.all_cons,List.all_append,Bool.and_eq_true]at hf
  obtain⟨h1,h2,h3,h4⟩:=hf
  have hh:=QDm h1
  have b32:(32:UInt8)≠10:=by decide
  have hi2:BV (ind++[32,32]):=hi.app (BV.cons b32 (BV.cons b32 BV.nil))
  have j1:=i1 _ hi2 h2
  have j2:=i2 _ hi2 h3
  have j3:=i3 _ hi h4
  simp only[Bw]
  by_cases hb:GR s.kind
  ·rw[if_pos hb,if_pos hb]
   have o1:=DW.one (hi.app (hh.app (BV.cons b32 (BV.cons (by decide) BV.nil):BV [32,123])))
   have o3:=DW.one (hi.app (BV.cons (by decide) BV.nil:BV [125]))
   by_cases he:0<e.count
   ·rw[if_pos he,if_pos he]
    have o2:=DW.one (hi.app (OE (p:=fun c=>c != 10) (by decide) (by decide):BV ([125,32]++FU++[32,123])))
    refine(o1.app (j1.app ((o2.app j2).app (o3.app j3)))).tq ?_ ?_<;>simp
   ·rw[if_neg he,if_neg he]
    refine(o1.app (j1.app (o3.app j3))).tq ?_ ?_<;>simp
  ·rw[if_neg hb,if_neg hb]
   have o1:=DW.one (hi.app (hh.app (BV.cons (by decide) BV.nil:BV [59])))
   refine(o1.app j3).tq ?_ ?_<;>simp
theorem VS:∀l:List (List UInt8),l.all nameB=true→BV (namesT l)
 |[],_=>BV.nil
 |[c],h=>by
  simp only[List.all_cons,Bool.and_eq_true]at h
  exact On h.1
 |c::d::l,h=>by
  rw[List.all_cons,Bool.and_eq_true]at h
  exact(On h.1).app ((BV.cons (by decide) (BV.cons (by decide) BV.nil)).app (VS (d::l) h.2))
def QDn (l:List (List UInt8)):List UInt8:=if l.isEmpty then[]else Io++(32::(namesT l++[59,10]))
theorem VT {t:Thr} {b:Bool} (h:Bh b t=true):DW (QDn t.regs++showS t.body) (Rb t.regs++bodyT t.body):=by
 unfold Bh at h
 simp only[Bool.and_eq_true]at h
 obtain⟨⟨⟨_,_⟩,hs⟩,hr⟩:=h
 refine DW.app ?_ ?_
 ·unfold QDn Rb
  cases hl:t.regs with
  |nil=>exact DW.nil
  |cons c l=>
   rw[hl]at hr
   have o:=DW.one ((OE (p:=fun c=>c != 10) (by decide) (by decide):BV Io).app (BV.cons (by decide) ((VS _ hr).app (BV.cons (by decide) BV.nil)):BV (32::(namesT (c::l)++[59]))))
   refine o.tq ?_ ?_<;>simp
 ·obtain⟨k,hk,hg,_,_,_,ht⟩:=DX hs
  rw[←hk,KX hg.1 (by rw[hk];exact hs)]
  unfold bodyT
  rw[hk,ht]
  exact VR k [] BV.nil hg.2
end Go.Proofs.YthfkpalfopdmhaaGreatDoor
