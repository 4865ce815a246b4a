/- Texts of the walk, packed. -/
import Derived.Test.YthfkpalfopdmhaaGreatDoorW05
import Derived.Test.YthfkpalfopdmhaaGreatDoorW06
import Derived.Test.YthfkpalfopdmhaaGreatDoorW03
import Derived.Lib.AppendIntMem
import Derived.Lib.ItoaLen
import Derived.Lib.Space
import Derived.Test.YthfkpalfopdmhaaGreatDoorW00
namespace Go.Proofs.YthfkpalfopdmhaaGreatDoor
open Go.RowKit
def BN (a:Nod):List Value:=[.int .i64 a.op,.int .i64 a.n,.string ⟨a.name.toArray⟩,.int .i64 a.pl]
def DR (L:List Nod):List Value:=L.flatMap BN
theorem MA (L M:List Nod):DR (L++M)=DR L++DR M:=by simp[DR]
theorem J0 (a:Nod):DR [a]=BN a:=by simp[DR]
theorem Pz (L:List Nod):(DR L).length=L.length*4:=by
 induction L with
 |nil=>rfl
 |cons t L ih=>unfold DR at *;rw[List.flatMap_cons,List.length_append,ih];simp[BN];omega
theorem Ro:∀(L:List Nod) (i:Nat) (t:Nod) (j:Nat) (u:Value),L[i]?=some t->(BN t)[j]?=some u->(DR L)[i*4+j]?=some u
 |[],i,t,j,u,h,_=>by simp at h
 |a::L,0,t,j,u,h,hj=>by
  simp at h;subst h;unfold DR;rw[List.flatMap_cons,List.getElem?_append_left (by have:=(List.getElem?_eq_some_iff.1 hj).1;omega)];simpa using hj
 |a::L,i+1,t,j,u,h,hj=>by
  have ih:=Ro L i t j u (by simpa using h) hj;unfold DR at *;rw[List.flatMap_cons,List.getElem?_append_right (by simp[BN];omega)];rw[<-ih];congr 1;simp[BN];omega
theorem Oq:∀(L:List Nod) (j:Nat) (u:Value),(DR L)[j]?=some u->∃i t,L[i]?=some t/\j=i*4+j%4/\(BN t)[j%4]?=some u
 |[],j,u,h=>by simp[DR]at h
 |a::L,j,u,h=>by
  unfold DR at h;rw[List.flatMap_cons]at h;by_cases hj:j<4
  ·rw[List.getElem?_append_left (by simpa[BN]using hj)]at h;exact⟨0,a,rfl,by omega,by rw[Nat.mod_eq_of_lt hj];exact h⟩
  ·rw[List.getElem?_append_right (by simp[BN];omega)]at h;have e:j-(BN a).length=j-4:=by simp[BN]
   rw[e]at h;obtain⟨i,t,h1,h2,h3⟩:=Oq L (j-4) u h;refine⟨i+1,t,by simpa using h1,by omega,?_⟩;rw[show j%4=(j-4)%4 from by omega];exact h3
theorem TU (L:List Nod):∀u∈DR L,u.oneCell'=true:=by
 intro u hu;unfold DR at hu;rw[List.mem_flatMap]at hu;obtain⟨a,_,ha⟩:=hu;simp[BN]at ha;rcases ha with rfl|rfl|rfl|rfl<;>rfl
def Bn (w:World) (B:Nat) (v:Value) (L:List Nod):Prop:=w.ownsRow B 46 4 v L.length (DR L)
def Ax (w:World) (v:Value) (L:List Nod):Prop:=
 ∃A c,v=.slice A L.length c/\L.length<=c/\c<=maxLen/\(∀i t,L[i]?=some t->∃g o,A=some ⟨g,o,none⟩/\g<w.heap.size/\
  w.cell? ⟨g,o+i*4,none⟩=some (.int .i64 t.op)/\w.cell? ⟨g,o+i*4+1,none⟩=some (.int .i64 t.n)/\w.cell? ⟨g,o+i*4+2,none⟩=some (.string ⟨t.name.toArray⟩)/\w.cell? ⟨g,o+i*4+3,none⟩=some (.int .i64 t.pl))
theorem Bn.read {w:World} {B:Nat} {v:Value} {L:List Nod} (h:Bn w B v L):Ax w v L:=by
 rcases h.2 with⟨rfl,h0⟩|⟨g,cap,cur,rfl,hB,hh,hn,hm,hs,hc⟩
 ·have:L=[]:=List.length_eq_zero_iff.1 h0;subst this;exact⟨none,0,rfl,Nat.le_refl _,Nat.zero_le _,fun i t h=>by simp at h⟩
 ·refine⟨_,cap,rfl,hn,hm,fun i t hi=>⟨g,0,rfl,(Array.getElem?_eq_some_iff.1 hh).1,?_⟩⟩;have key:∀j u,(BN t)[j]?=some u->w.cell? ⟨g,0+i*4+j,none⟩=some u:=by
   intro j u hj;have h1:=Ro L i t j u hi hj;have hlt:=(List.getElem?_eq_some_iff.1 h1).1;rw[Pz]at hlt;rw[cell_of_row w g _ cur 46 (0,0) hh];rw[<-hc,List.getElem?_take,if_pos (by omega)]at h1;simpa using h1
  exact⟨key 0 _ rfl,key 1 _ rfl,key 2 _ rfl,key 3 _ rfl⟩
theorem Ax.on {w w':World} {v:Value} {L:List Nod} (h:Ax w v L) (hb:Below w.heap.size w w'):Ax w' v L:=by
 obtain⟨A,c,hv,hc,hm,hr⟩:=h;refine⟨A,c,hv,hc,hm,fun i t hi=>?_⟩;obtain⟨g,o,hA,hg,h0,h1,h2,h3⟩:=hr i t hi;have e:∀j,w'.cell? ⟨g,j,none⟩=w.cell? ⟨g,j,none⟩:=fun j=>hb.cell (p:=⟨g,j,none⟩) hg
 exact⟨g,o,hA,Nat.lt_of_lt_of_le hg hb.size,by rw[e];exact h0,by rw[e];exact h1,by rw[e];exact h2,by rw[e];exact h3⟩
theorem Bn.on {w w':World} {B:Nat} {v:Value} {L:List Nod} (h:Bn w B v L) (hb:Below w.heap.size w w'):Bn w' B v L:=by
 obtain⟨h1,h2⟩:=h;refine⟨h1,?_⟩;rcases h2 with h2|⟨g,cap,cur,hv,hg,hh,r⟩
 ·exact .inl h2
 ·exact .inr ⟨g,cap,cur,hv,hg,(hb.block g (Array.getElem?_eq_some_iff.1 hh).1).trans hh,r⟩
theorem Bn.base {w:World} {B B':Nat} {v:Value} {L:List Nod} (h:Bn w B v L) (hB:B'<=B):Bn w B' v L:=by
 obtain⟨h1,h2⟩:=h;refine⟨h1,?_⟩;rcases h2 with h2|⟨g,cap,cur,hv,hg,r⟩
 ·exact .inl h2
 ·exact .inr ⟨g,cap,cur,hv,Nat.le_trans hB hg,r⟩
theorem E8 (w:World) (B:Nat):Bn w B (.slice none 0 0) []:=World.ownsRow_nil _ _ _ _
theorem Ax.part {w:World} {g o n c k tq:Nat} {L:List Nod} (h:Ax w (.slice (some ⟨g,o,none⟩) n c) L) (hk:k<=tq) (ht:tq<=n):Ax w (.slice (some ⟨g,o+k*4,none⟩) (tq-k) (c-k)) ((L.take tq).drop k):=by
 obtain⟨A,c',hv,hc,hm,hr⟩:=h;simp only[Value.slice.injEq]at hv;obtain⟨rfl,rfl,rfl⟩:=hv;refine⟨_,_,by rw[List.length_drop,List.length_take,Nat.min_eq_left ht],by rw[List.length_drop,List.length_take,Nat.min_eq_left ht];omega,by omega,fun i t hi=>?_⟩;rw[List.getElem?_drop,List.getElem?_take]at hi;split at hi
 ·obtain⟨g',o',hA,hg,h0,h1,h2,h3⟩:=hr (k+i) t hi;simp only[Option.some.injEq,Addr.mk.injEq]at hA;obtain⟨rfl,rfl,_⟩:=hA;have e:o+(k+i)*4=o+k*4+i*4:=by omega
  rw[e]at h0 h1 h2 h3;exact⟨g,o+k*4,rfl,hg,h0,h1,h2,h3⟩
 ·cases hi
theorem Ax.len {w:World} {A:Option Addr} {n c:Nat} {L:List Nod} (h:Ax w (.slice A n c) L):n=L.length/\n<=c/\c<=maxLen:=by
 obtain⟨A',c',hv,hc,hm,hr⟩:=h;simp only[Value.slice.injEq]at hv;obtain⟨rfl,rfl,rfl⟩:=hv;exact⟨rfl,hc,hm⟩
theorem Ax.addr {w:World} {v:Value} {L:List Nod} (h:Ax w v L) (h0:L≠[]):∃g o c,v=.slice (some ⟨g,o,none⟩) L.length c/\L.length<=c/\c<=maxLen/\g<w.heap.size:=by
 obtain⟨A,c,hv,hc,hm,hr⟩:=h;cases L with
 |nil=>exact absurd rfl h0
 |cons a L=>
  obtain⟨g,o,rfl,hg,_⟩:=hr 0 a rfl;exact⟨g,o,c,hv,hc,hm,hg⟩
theorem J1 {a b:Int} (h:a=b):Ending.returned (.int .i64 a)=.returned (.int .i64 b):=by rw[h]
def WU (n:Int) (w:World) (e:Ending) (w':World):Prop:=e=.returned (.int .i64 n)/\w=w'
theorem ZA (op:Int):JE op=if op=1\/op=2 then 0 else if op=3\/op=4 then 1 else if 5<=op/\op<=15 then 2 else -1:=by
 unfold JE BD;by_cases h1:op=1\/op=2
 ·rw[if_pos h1,if_pos h1];rfl
 ·rw[if_neg h1,if_neg h1];by_cases h2:op=3\/op=4
  ·rw[if_pos h2,if_pos h2];rfl
  ·rw[if_neg h2,if_neg h2];by_cases h3:5<=op/\op<=15
   ·rw[if_pos h3,if_pos h3];rfl
   ·rw[if_neg h3,if_neg h3]
theorem Eg (op:Int) (w:World):Calls Tryz.prog 170 #[.int .i64 op] w (WU (JE op) w):=by
 go_enter Tryz.func170,Tryz.ntmps170
 go_wp2
 all_goals
  go_ret;refine⟨J1 ?_,rfl⟩;rw[ZA]
  simp_all<;>omega
def P5 (m:Nat) (L:List Nod) (k:Nat):Int:=match FQ m (L.drop k)with
 |some j=>((k+j:Nat):Int)
 |none=> -1
theorem WV (L:List Nod) (k:Nat):P5 0 L k=M7 L k:=(U8 L k).symm
theorem QBR {m:Nat} {L:List Nod} {k:Nat} (h:L.length<=k):P5 m L k= -1:=by
 unfold P5;rw[List.drop_eq_nil_of_le h];rfl
theorem ZB {m:Nat} {L:List Nod} {k:Nat} {a:Nod} (h:L[k]?=some a) (ht:BD a.op=none):P5 m L k= -1:=by
 unfold P5;rw[drop_cons h,JQ _ ht]
theorem ZC {L:List Nod} {k:Nat} {a:Nod} (h:L[k]?=some a) (ht:BD a.op=some 0):P5 0 L k=k+1:=by
 unfold P5;rw[drop_cons h,JR _ ht];simp
theorem ZD {m t:Nat} {L:List Nod} {k:Nat} {a:Nod} (h:L[k]?=some a) (ht:BD a.op=some t) (h2:m+t≠0):P5 m L k=P5 (m+t-1) L (k+1):=by
 unfold P5;rw[drop_cons h,Gh _ ht h2];cases FQ (m+t-1) (L.drop (k+1))with
 |none=>rfl
 |some j=>show((k+(j+1):Nat):Int)=((k+1+j:Nat):Int);omega
set_option maxRecDepth 100000 in
set_option maxHeartbeats 2000000 in
theorem M8 (v:Value) (L:List Nod) (i:Int) (w:World) (h:Ax w v L) (hl:L.length<=10000):Calls Tryz.prog 157 #[v,.int .i64 i] w (WU (M7 L i) w):=by
 obtain⟨A,c,rfl,hc,hm,hr⟩:=h;have HR:=AA hr;clear hr;by_cases hi:i<0
 ·have HE:=AA (QBO (L:=L) hi);go_enter Tryz.func157,Tryz.ntmps157;go_wp2_with fail
  go_ret;exact⟨J1 HE.out.symm,rfl⟩
 ·obtain⟨n,rfl⟩:∃n:Nat,i=n:=⟨i.toNat,by omega⟩
  clear hi;go_enter Tryz.func157,Tryz.ntmps157;go_wp2_with fail
  go_loop [1,5] (fun i s=>∃k m:Nat,n<=k/\(k=n\/k<=L.length)/\m<=k-n/\i=.int .i64 k/\s=.int .i64 (m+1:Nat)/\P5 m L k=M7 L n) (fun i _=>L.length-(intOf i).toNat)
  case atStart=>exact⟨n,0,Nat.le_refl _,.inl rfl,Nat.zero_le _,rfl,rfl,WV L n⟩
  case round=>
   obtain⟨k,m,hk,hk2,hm2,rfl,rfl,hE⟩:=hrel;have HE:=AA hE;clear hE;by_cases hlt:k<L.length
   ·have ha:L[k]?=some L[k]:=List.getElem?_eq_getElem hlt;generalize L[k]=a at *;obtain⟨g,o,rfl,hg,x0,x1,x2,x3⟩:=HR.out k a ha;cases ht:BD a.op with
    |none=>
     have HQ:=AA (ZB (m:=m) ha ht);have HT:=AA (U7 ht);clear ha ht;go_wp2_with fail
     refine(Eg _ _).mono ?_;rw[HT.out];rintro e w' ⟨rfl,rfl⟩;go_wp2_with fail
     go_ret;exact⟨J1 (by rw[<-HE.out,HQ.out]),rfl⟩
    |some t=>
     have HT:=AA (G5 ht);have ht2:=U6 ht;by_cases h0:m+t=0
     ·obtain⟨rfl,rfl⟩:m=0/\t=0:=by omega
      have HQ:=AA (ZC ha ht);clear ha ht h0;go_wp2_with fail
      refine(Eg _ _).mono ?_;rw[HT.out];rintro e w' ⟨rfl,rfl⟩;go_wp2_with fail
      go_ret;exact⟨J1 (by rw[<-HE.out,HQ.out]),rfl⟩
     ·have HQ:=AA (ZD ha ht h0);have hne:((m:Int)+1+((t:Int)-1)==0)=false:=beq_eq_false_iff_ne.2 (by omega);have HM:Hid ((m:Int)+1+((t:Int)-1)=((m+t-1+1:Nat):Int)):=AA (by omega);clear ha ht;go_wp2_with fail
      refine(Eg _ _).mono ?_;rw[HT.out];rintro e w' ⟨rfl,rfl⟩;go_wp2_with fail
      go_round;case rel=>exact⟨k+1,m+t-1,by omega,by omega,by omega,by go_num,by rw[HM.out],by rw[<-HQ.out];exact HE.out⟩
      case measure=>simp[intOf];omega
   ·have HQ:=AA (QBR (m:=m) (L:=L) (k:=k) (by omega));go_wp2_with fail
    go_ret;exact⟨J1 (by rw[<-HE.out,HQ.out]),rfl⟩
set_option maxRecDepth 100000 in
set_option maxHeartbeats 2000000 in
theorem QBS:∀(n:Nat) (x:Ex) (v:Value) (w:World),x.size<=n->n<=10000->x.ok->Ax w v x.flat->Calls Tryz.prog 160 #[v] w (WU x.deep w):=by
 intro n
 induction n with
 |zero=>intro x v w h;have:=GO x;omega
 |succ n ih=>
  intro x v w hs hn ho h;obtain⟨g,o,c,rfl,hc,hm,hg⟩:=h.addr (M5 x);have HSZ:=AA (ZE x);have hok:=(YB ho).1;have HD:=AA (ZF x);have HH:=AA h;have HI:=AA ih;have HO:=AA hok;have HL:=AA (Bt x);have hdz:=IQ x;rw[Bt]at hc⊢;clear ih h hok;unfold maxLen at hm;go_enter Tryz.func160,Tryz.ntmps160;go_wp2_with fail
  go_loop [3,4] (fun d f=>∃done rest:List Ex,x.kids=done++rest/\d=.int .i64 (M9 done:Nat)/\f=.int .i64 (1+Ce done:Nat)/\M9 done<=10001) (fun _ f=>x.size-(intOf f).toNat)
  case atStart=>exact⟨[],x.kids,rfl,rfl,rfl,by decide⟩
  case round=>
   obtain⟨done,rest,hk,rfl,rfl,hd⟩:=hrel;have HSUM:Hid (x.size=1+(Ce done+Ce rest)):=AA (by rw[HSZ.out,hk,Rq]);cases rest with
   |nil=>
    have HX:Hid (x.deep=M9 done):=AA (by rw[HD.out,hk,List.append_nil]);have hlt:¬((1+Ce done:Nat):Int)<(x.size:Int):=by rw[HSUM.out];show¬((1+Ce done:Nat):Int)<((1+(Ce done+0):Nat):Int);omega
    clear hk;go_wp2_with fail
    go_ret;exact⟨J1 (by rw[HX.out]),rfl⟩
   |cons y rest=>
    have hp:=GO y;have hle:1+Ce done+y.size<=x.size:=by rw[HSUM.out,P6];omega
    have hoy:y.ok:=HO.out y (by rw[hk];simp);have HE:=AA (YC hk hoy);have HP:=AA (NC hk);have HS:=AA (WX done y);have HZ:Hid (Ce (done++[y])=Ce done+y.size):=AA (by rw[Rq];simp[Ce]);have HK:Hid (x.kids=(done++[y])++rest):=AA (by rw[hk];simp);have hdy:=IQ y;have HY:=AA hoy;clear hk hoy;have hlt:((1+Ce done:Nat):Int)<(x.size:Int):=by omega
    generalize hfr:1+Ce done=fr at *;have HF:=AA hfr;clear hfr;go_wp2_with fail
    refine(M8 _ x.flat _ _ (by rw[<-HL.out];exact HH.out) (by rw[HL.out];omega)).mono ?_;rw[HE.out];rintro e w' ⟨rfl,rfl⟩;go_wp2_with fail
    refine(HI.out y _ _ ?h1 (by omega) HY.out ?h2).mono ?_;case h1=>have:=HF.out;omega
    case h2=>
     have hq:=Ax.part (k:=fr) (tq:=fr+y.size) HH.out (by omega) (by rw[HL.out];omega);rw[HP.out,show fr+y.size-fr=y.size from by omega]at hq;exact hq
    rintro e w' ⟨rfl,rfl⟩;go_wp2_with fail
    go_round;case rel=>exact⟨done++[y],rest,HK.out,by rw[HS.out];first|rfl|go_num|(congr 1;omega),by rw[HZ.out,<-HF.out];first|rfl|(congr 1;omega),by rw[HS.out];omega⟩
    case measure=>simp[intOf];omega
set_option maxRecDepth 100000 in
set_option maxHeartbeats 2000000 in
theorem Rr (a:Nod) (w:World) (hn:a.name.length<=100000):Calls Tryz.prog 159 #[.agg #[.int .i64 a.op,.int .i64 a.n,.string ⟨a.name.toArray⟩,.int .i64 a.pl]] w (AK (!CW a) w):=by
 obtain⟨op,n,name,pl⟩:=a;simp only at hn⊢;go_enter Tryz.func159,Tryz.ntmps159;go_wp2_with fail
 case isTrue=>
  refine(name_any ⟨name.toArray⟩ _ (by show name.toArray.size<=_;simpa using hn)).mono ?_;rw[show(ByteArray.mk name.toArray).data.toList=name from by simp];rintro e w1 ⟨rfl,hb⟩;have HB:=AA (Gg hb);clear hb;go_wp2_with fail
  go_ret;exact⟨AH (by simp_all [CW]),HB.out⟩
 all_goals
  go_ret;refine⟨AH ?_,(Below.refl _ _).alloc (Nat.le_refl _) _⟩
  simp_all [CW]
  try omega
theorem ZH {p:Nod->Bool} {L:List Nod} {k:Nat} {a:Nod} (h:L[k]?=some a) (ha:(L.take k).all p=true) (hp:p a=true):(L.take (k+1)).all p=true:=by
 rw[List.take_add_one,h,List.all_append,ha];simp[hp]
theorem ZI {L:List Nod} {k:Nat} {a:Nod} (h:L[k]?=some a) (hp:CW a=false):L.all CW=false:=by
 rw[List.all_eq_false];exact⟨a,List.mem_of_getElem? h,by simp[hp]⟩
def Ej (L:List Nod):Prop:=∀a∈L,a.name.length<=100000
def QFv (b:Bool) (w:World) (e:Ending) (w':World):Prop:=∃n:Int,e=.returned (.int .i64 n)/\decide (0<=n)=b/\Below w.heap.size w w'
set_option maxRecDepth 100000 in
set_option maxHeartbeats 2000000 in
theorem P7 (v:Value) (L:List Nod) (w:World) (h:Ax w v L) (hl:L.length<=10000) (hs:Ej L):Calls Tryz.prog 199 #[v,.func (.func 159) #[] #[]] w (QFv (!L.all CW) w):=by
 have HS:=AA hs;have HR:=AA h;obtain⟨A,c,hv,hc,hm,hr⟩:=h;subst hv;clear hr hs;go_enter Tryz.func199,Tryz.ntmps199;go_wp2_with fail
 go_loopw [8] (fun i wr=>∃k:Nat,k<=L.length/\i=.int .i64 k/\(L.take k).all CW=true/\Below w.heap.size w wr) (fun i _=>L.length-(intOf i).toNat)
 case atStart=>exact⟨0,Nat.zero_le _,rfl,rfl,Below.refl _ _⟩
 case round=>
  obtain⟨k,hk,rfl,ha,hb⟩:=hrel;have HA:=AA ha;have HB:=AA hb;clear ha;by_cases hlt:k<L.length
  ·have hat:L[k]?=some L[k]:=List.getElem?_eq_getElem hlt;have hsm:=HS.out _ (List.getElem_mem hlt);generalize L[k]=a at *;obtain⟨A',c',hv',_,_,hr'⟩:=HR.out.on hb;obtain⟨rfl,_,rfl⟩:A=A'/\True/\c=c':=by simpa using hv'
   obtain⟨g,o,rfl,hg,x0,x1,x2,x3⟩:=hr' k a hat;clear hr' hv' hb;cases hw:CW a with
   |true=>
    have HN:=AA (ZH hat HA.out hw);have HW:=AA hw;clear hat hw;go_wp2_with fail
    refine(Rr a _ hsm).mono ?_;rw[HW.out];rintro e w1 ⟨rfl,hb⟩;have HB2:=AA (AC HB.out hb);clear hb;go_wp2_with fail
    go_roundw;case rel=>exact⟨k+1,by omega,by go_num,HN.out,HB2.out⟩
    case measure=>simp[intOf];omega
   |false=>
    have HN:=AA (ZI hat hw);have HW:=AA hw;clear hat hw;go_wp2_with fail
    refine(Rr a _ hsm).mono ?_;rw[HW.out];rintro e w1 ⟨rfl,hb⟩;have HB2:=AA (AC HB.out hb);clear hb;go_wp2_with fail
    go_ret;exact⟨k,rfl,by rw[HN.out];simp,HB2.out⟩
  ·have HN:Hid (L.all CW=true):=AA (by have:=HA.out;rwa [List.take_of_length_le (by omega)]at this);clear hb;go_wp2_with fail
   go_ret;exact⟨-1,rfl,by rw[HN.out];rfl,HB.out⟩
set_option maxHeartbeats 2000000 in
theorem ND (v:Value) (L:List Nod) (w:World) (h:Ax w v L) (hl:L.length<=10000) (hs:Ej L):Calls Tryz.prog 158 #[v,.func (.func 159) #[] #[]] w (AK (!L.all CW) w):=by
 have HH:=AA h;have HS:=AA hs;clear h hs;go_enter Tryz.func158,Tryz.ntmps158;go_wp2_with fail
 refine(P7 v L _ HH.out hl HS.out).mono ?_;rintro e w1 ⟨n,rfl,hn,hb⟩;have HN:=AA hn;have HB:=AA hb;clear hn hb;go_wp2_with fail
 go_ret;exact⟨AH HN.out,HB.out⟩
set_option maxRecDepth 100000 in
set_option maxHeartbeats 2000000 in
theorem JU (v:Value) (L:List Nod) (w:World) (h:Ax w v L) (hl:L.length<=10000) (hs:Ej L):Calls Tryz.prog 110 #[v] w (AK (Bm L) w):=by
 have HH:=AA h;have HS:=AA hs;obtain⟨A,c,hv,hc,hm,hr⟩:=h;subst hv;clear hr hs;by_cases h40:L.length<=40
 ·cases hw:Ft L with
  |none=>
   have HE:=AA (QD2 hw);have HR:Hid (Bm L=false):=AA (by unfold Bm;rw[hw]);obtain⟨n,hn⟩:∃n,M7 L 0=n:=⟨_,rfl⟩
   have HNN:=AA hn;have hne:(n==(L.length:Int))=false:=beq_eq_false_iff_ne.2 (by rw[<-hn];exact HE.out);clear hn hw;go_enter Tryz.func110,Tryz.ntmps110;go_wp2_with fail
   refine(M8 _ L 0 _ HH.out hl).mono ?_;rw[HNN.out];rintro e w' ⟨rfl,rfl⟩;go_wp2_with fail
   go_ret;exact⟨AH HR.out.symm,Below.refl _ _⟩
  |some x=>
   have HE:=AA (Y6 hw);obtain⟨ho,hf⟩:=L8 hw;have HF:=AA hf;have HO:=AA ho;have HX:Hid (Bm L=(L.all CW&&decide (x.deep<=12))):=AA (by unfold Bm;rw[hw];simp[h40]);have hsz:x.size<=40:=by rw[<-Bt,<-hf];exact h40
   clear hw hf ho;cases ha:L.all CW with
   |false=>
    have HA:=AA ha;have HR:Hid (Bm L=false):=AA (by rw[HX.out,ha];rfl);clear ha;go_enter Tryz.func110,Tryz.ntmps110;go_wp2_with fail
    refine(M8 _ L 0 _ HH.out hl).mono ?_;rw[HE.out];rintro e w' ⟨rfl,rfl⟩;go_wp2_with fail
    refine(ND _ L _ HH.out hl HS.out).mono ?_;rw[HA.out];rintro e w1 ⟨rfl,hb⟩;go_wp2_with fail
    go_ret;exact⟨AH HR.out.symm,hb⟩
   |true=>
    have HA:=AA ha;have HR:Hid (Bm L=decide (x.deep<=12)):=AA (by rw[HX.out,ha];rfl);clear ha;go_enter Tryz.func110,Tryz.ntmps110;go_wp2_with fail
    refine(M8 _ L 0 _ HH.out hl).mono ?_;rw[HE.out];rintro e w' ⟨rfl,rfl⟩;go_wp2_with fail
    refine(ND _ L _ HH.out hl HS.out).mono ?_;rw[HA.out];rintro e w1 ⟨rfl,hb⟩;have HB:=AA hb;clear hb;go_wp2_with fail
    refine(QBS 40 x _ _ hsz (by omega) HO.out (by rw[<-HF.out];exact HH.out.on HB.out)).mono ?_;rintro e w' ⟨rfl,rfl⟩;go_wp2_with fail
    go_ret;exact⟨AH (by rw[HR.out,Bool.eq_iff_iff];simp;omega),HB.out⟩
 ·have HR:Hid (Bm L=false):=AA (by unfold Bm;cases Ft L<;>simp[h40]);go_enter Tryz.func110,Tryz.ntmps110;go_wp2_with fail
  go_ret;exact⟨AH HR.out.symm,Below.refl _ _⟩
def Kw:Array Value:=(Ib.map fun t=>Value.string ⟨t.toArray⟩).toArray
def Kx:Array Value:=(Bg.map fun t=>Value.string ⟨t.toArray⟩).toArray
def P8:Array Value:=(Po.map fun z=>Value.int .i64 z).toArray
def P9:List (List UInt8):=[[],[114,101],[114,110],[110,101],[114,110,101,102],[110],[110],[],[],[110],[110],[101,98],[107,98],[],[101]]
def QA:List (List UInt8):=[[],[114,32,61,32,101,32,59],[108,111,97,100,32,114,32,61,32,110,32,59],[115,116,111,114,101,32,110,32,61,32,101,32,59],[99,97,115,32,114,32,61,32,110,32,44,32,101,32,44,32,102,32,59],[102,108,117,115,104,32,110,32,59],[111,112,116,32,110,32,59],[115,102,101,110,99,101,32,59],[109,102,101,110,99,101,32,59],[116,97,107,101,32,110,32,59],[103,105,118,101,32,110,32,59],[105,102,32,101,32,98],[108,111,111,112,32,107,32,98],[98,114,101,97,107,32,59],[99,104,101,99,107,32,101,32,59]]
def Dh (k:Nat):List UInt8:=P9.getD k []
def CN (k:Nat):List UInt8:=QA.getD k []
def OC:Array Value:=(P9.map fun t=>Value.string ⟨t.toArray⟩).toArray
def GE:Array Value:=(QA.map fun t=>Value.string ⟨t.toArray⟩).toArray
theorem QBT:Tryz.prog.globalNamed (Tryz.prog.globals[4]?.map (·.name)).get!=some 4:=by kernel_rfl
theorem QFw:Tryz.prog.globalNamed (Tryz.prog.globals[8]?.map (·.name)).get!=some 8:=by kernel_rfl
structure Tabs (w:World):Prop where
 owned:∃t fr,w.heap[3]?=some (.cells OC t fr)
 forms:∃t fr,w.heap[2]?=some (.cells GE t fr)
 space:Lib.TabIs Tryz.prog w (Tryz.prog.globals[4]?.map (·.name)).get! .u8 Lib.asciiSpaceTab
 signs:∃t fr,w.heap[0]?=some (.cells Kw t fr)
 binds:∃t fr,w.heap[7]?=some (.cells P8 t fr)
 scans:∃t fr,w.heap[1]?=some (.cells Kx t fr)
 pows:Lib.TabIs Tryz.prog w (Tryz.prog.globals[8]?.map (·.name)).get! .u64 Lib.pow10Tab
theorem Tabs.lt {w:World} (h:Tabs w):7<w.heap.size:=by
 obtain⟨t,fr,h⟩:=h.binds;exact(Array.getElem?_eq_some_iff.1 h).1
theorem Tabs.lt2 {w:World} (h:Tabs w):8<w.heap.size:=by
 have h3:=h.pows;unfold Lib.TabIs World.var? at h3;rw[QFw]at h3;simp only[Option.bind_some]at h3;rcases Nat.lt_or_ge 8 w.heap.size with h'|h'
 ·exact h'
 ·rw[Array.getElem?_eq_none h']at h3;simp at h3
theorem Tabs.same {w w':World} (h:Tabs w) (hb:∀k,k<=8->w'.heap[k]?=w.heap[k]?):Tabs w':=by
 obtain⟨⟨t0,f0,s0⟩,⟨t1,f1,s1⟩,s2,⟨t,fr,s5⟩,⟨t2,fr2,s6⟩,⟨t3,fr3,s8⟩,s7⟩:=h;refine⟨⟨t0,f0,(hb 3 (by omega)).trans s0⟩,⟨t1,f1,(hb 2 (by omega)).trans s1⟩,?_,⟨t,fr,(hb 0 (by omega)).trans s5⟩,⟨t2,fr2,(hb 7 (by omega)).trans s6⟩,⟨t3,fr3,(hb 1 (by omega)).trans s8⟩,?_⟩
 ·unfold Lib.TabIs World.var? at *;rw[QBT]at *;simp only[Option.bind_some]at *;rw[hb 4 (by omega)];exact s2
 ·unfold Lib.TabIs World.var? at *;rw[QFw]at *;simp only[Option.bind_some]at *;rw[hb 8 (by omega)];exact s7
theorem Tabs.on {w w':World} (h:Tabs w) (hb:Below w.heap.size w w'):Tabs w':=h.same fun k hk=>hb.block k (by have:=h.lt2;omega)
theorem Tabs.alloc {w:World} (h:Tabs w) (o:Obj):Tabs (w.alloc o):=h.on ((Below.refl _ _).alloc (Nat.le_refl _) _)
theorem Tabs.sign {w:World} (h:Tabs w) {k:Nat} (hk:k<16):w.cell? ⟨0,k,none⟩=some (.string ⟨(Ar k).toArray⟩):=by
 obtain⟨t,fr,h1⟩:=h.signs;rw[cell_of_row w 0 k Kw t fr h1];have:k=0\/k=1\/k=2\/k=3\/k=4\/k=5\/k=6\/k=7\/k=8\/k=9\/k=10\/k=11\/k=12\/k=13\/k=14\/k=15:=by omega
 rcases this with rfl|rfl|rfl|rfl|rfl|rfl|rfl|rfl|rfl|rfl|rfl|rfl|rfl|rfl|rfl|rfl<;>rfl
theorem Tabs.bind {w:World} (h:Tabs w) {k:Nat} (hk:k<16):w.cell? ⟨7,k,none⟩=some (.int .i64 (Em k)):=by
 obtain⟨t,fr,h1⟩:=h.binds;rw[cell_of_row w 7 k P8 t fr h1];have:k=0\/k=1\/k=2\/k=3\/k=4\/k=5\/k=6\/k=7\/k=8\/k=9\/k=10\/k=11\/k=12\/k=13\/k=14\/k=15:=by omega
 rcases this with rfl|rfl|rfl|rfl|rfl|rfl|rfl|rfl|rfl|rfl|rfl|rfl|rfl|rfl|rfl|rfl<;>rfl
theorem Tabs.own {w:World} (h:Tabs w) {k:Nat} (hk:k<15):w.cell? ⟨3,k,none⟩=some (.string ⟨(Dh k).toArray⟩):=by
 obtain⟨t,fr,h1⟩:=h.owned;rw[cell_of_row w 3 k OC t fr h1];have:k=0\/k=1\/k=2\/k=3\/k=4\/k=5\/k=6\/k=7\/k=8\/k=9\/k=10\/k=11\/k=12\/k=13\/k=14:=by omega
 rcases this with rfl|rfl|rfl|rfl|rfl|rfl|rfl|rfl|rfl|rfl|rfl|rfl|rfl|rfl|rfl<;>rfl
theorem Tabs.form {w:World} (h:Tabs w) {k:Nat} (hk:k<15):w.cell? ⟨2,k,none⟩=some (.string ⟨(CN k).toArray⟩):=by
 obtain⟨t,fr,h1⟩:=h.forms;rw[cell_of_row w 2 k GE t fr h1];have:k=0\/k=1\/k=2\/k=3\/k=4\/k=5\/k=6\/k=7\/k=8\/k=9\/k=10\/k=11\/k=12\/k=13\/k=14:=by omega
 rcases this with rfl|rfl|rfl|rfl|rfl|rfl|rfl|rfl|rfl|rfl|rfl|rfl|rfl|rfl|rfl<;>rfl
def Br (l:List UInt8) (w:World) (e:Ending) (w':World):Prop:=e=.returned (.string ⟨l.toArray⟩)/\Below w.heap.size w w'
theorem BZ {l l':List UInt8} {w w':World} {e:Ending} (he:e=.returned (.string ⟨l'.toArray⟩)) (h:l'=l) (hb:Below w.heap.size w w'):Br l w e w':=by
 subst h;exact⟨he,hb⟩
set_option maxHeartbeats 1000000 in
theorem OD (n:Int) (h0: -9223372036854775808<=n) (h1:n<=9223372036854775807) (w:World) (ht:Tabs w):Calls Tryz.prog 116 #[.int .i64 n] w (Br (Lib.itoa n) w):=by
 have HT:=AA ht.pows;clear ht;go_enter Tryz.func116,Tryz.ntmps116;go_wp2_with fail
 refine(Tryz.strconv_Itoa n h0 h1 _ HT.out).mono ?_;rintro e w' ⟨rfl,k,os,rfl⟩
 go_wp2
 go_ret;exact⟨rfl,Lib.below_grow _ _ (Nat.le_refl _) _ _⟩
def AU (inner:Bool):Ex->List UInt8
 |.leaf a=>if a.op=1 then Lib.itoa a.n else a.name
 |.un a x=>Ar a.op.toNat++AU true x
 |.bin a x y=>if inner=true then[40]++(AU true x++[32]++Ar a.op.toNat++[32]++AU true y)++[41]else AU true x++[32]++Ar a.op.toNat++[32]++AU true y
def Ho (x:Ex):Prop:=∀a∈x.flat,a.name.length<=16/\0<=a.n/\a.n<=4294967296
theorem NE (k:Nat):(Ar k).length<=2:=by
 by_cases h:k<16
 ·revert h
  have:∀k:Fin 16,(Ar k).length<=2:=by decide
  exact fun h=>this ⟨k,h⟩
 ·unfold Ar;rw[List.getD_eq_getElem?_getD,List.getElem?_eq_none (by show 16<=k;omega)];decide
theorem Ky (x:Ex):∀(b:Bool),Ho x->(AU b x).length<=21*x.size:=by
 induction x with
 |leaf a=>
  intro b h;have ha:=h a (by simp[Ex.flat]);unfold AU;split
  ·have:=Lib.itoa_length_le a.n (by omega) (by omega);simp only[Ex.size];omega
  ·simp only[Ex.size];omega
 |un a x ih=>
  intro b h;have:=ih true (fun c hc=>h c (by simp[Ex.flat,hc]));have h2:=NE a.op.toNat;simp only[AU,List.length_append,Ex.size];omega
 |bin a x y ih1 ih2=>
  intro b h;have i1:=ih1 true (fun c hc=>h c (by simp[Ex.flat,hc]));have i2:=ih2 true (fun c hc=>h c (by simp[Ex.flat,hc]));have h2:=NE a.op.toNat;simp only[AU,Ex.size];split
  ·simp only[List.length_append,List.length_cons,List.length_nil];omega
  ·simp only[List.length_append,List.length_cons,List.length_nil];omega
structure Ac (g:Nat) (w w':World):Prop where
 os:w'.os=w.os
 tape:w'.tape=w.tape
 output:w'.output=w.output
 size:w.heap.size<=w'.heap.size
 block:∀k,k<w.heap.size->k≠g->w'.heap[k]?=w.heap[k]?
theorem Ac.refl (g:Nat) (w:World):Ac g w w:=⟨rfl,rfl,rfl,Nat.le_refl _,fun _ _ _=>rfl⟩
theorem Ac.trans {g:Nat} {w w1 w2:World} (h:Ac g w w1) (k:Ac g w1 w2):Ac g w w2:=
 ⟨k.os.trans h.os,k.tape.trans h.tape,k.output.trans h.output,Nat.le_trans h.size k.size,fun i hi hg=>(k.block i (Nat.lt_of_lt_of_le hi h.size) hg).trans (h.block i hi hg)⟩
theorem Ac.of {g:Nat} {w w':World} (h:Below w.heap.size w w'):Ac g w w':=⟨h.os,h.tape,h.output,h.size,fun k hk _=>h.block k hk⟩
theorem Ac.set {g j:Nat} {w w':World} {v:Value} (h:Ac g w w'):Ac g w (w'.setCell ⟨g,j,none⟩ v):=by
 refine⟨h.os,h.tape,h.output,by simpa using h.size,fun k hk hg=>?_⟩;rw[<-h.block k hk hg];simp only[World.setCell];rw[Array.getElem?_modify,if_neg (fun e=>hg e.symm)]
theorem Ac.below {g:Nat} {w w':World} (h:Ac g w w') {B:Nat} (hB:B<=g) (hw:B<=w.heap.size):Below B w w':=
 ⟨h.os,h.tape,h.output,h.size,fun k hk=>h.block k (by omega) (by omega)⟩
theorem Ac.cell {g:Nat} {w w':World} (h:Ac g w w') {b o:Nat} (hb:b<w.heap.size) (hg:b≠g):w'.cell? ⟨b,o,none⟩=w.cell? ⟨b,o,none⟩:=World.cell?_of_block (h.block b hb hg)
theorem Ac.frozen {g:Nat} {w w':World} (h:Ac g w w') {b o:Nat} (hb:b<w.heap.size) (hg:b≠g):w'.frozen? ⟨b,o,none⟩=w.frozen? ⟨b,o,none⟩:=World.frozen?_of_block (h.block b hb hg)
structure Rd (w:World) (g:Nat) (v:Value) (i d:Nat):Prop where
 lt:g<w.heap.size
 c0:w.cell? ⟨g,0,none⟩=some v
 c1:w.cell? ⟨g,1,none⟩=some (.int .i64 i)
 c2:w.cell? ⟨g,2,none⟩=some (.int .i64 d)
 f1:w.frozen? ⟨g,1,none⟩=false
 f2:w.frozen? ⟨g,2,none⟩=false
theorem Rd.on {w w':World} {g:Nat} {v:Value} {i d:Nat} (h:Rd w g v i d) (hb:Below w.heap.size w w'):Rd w' g v i d:=
 ⟨Nat.lt_of_lt_of_le h.lt hb.size,(hb.cell (p:=⟨g,0,none⟩) h.lt).trans h.c0,(hb.cell (p:=⟨g,1,none⟩) h.lt).trans h.c1,(hb.cell (p:=⟨g,2,none⟩) h.lt).trans h.c2,(hb.frozen (p:=⟨g,1,none⟩) h.lt).trans h.f1,(hb.frozen (p:=⟨g,2,none⟩) h.lt).trans h.f2⟩
theorem Rd.set1 {w:World} {g:Nat} {v:Value} {i d:Nat} (h:Rd w g v i d) (j:Nat):Rd (w.setCell ⟨g,1,none⟩ (.int .i64 j)) g v j d:=
 ⟨by simpa using h.lt,(World.cell?_setCell_other _ _ _ _ (by simp)).trans h.c0,World.cell?_setCell_same _ _ _ h.c1,(World.cell?_setCell_other _ _ _ _ (by simp)).trans h.c2,by simpa using h.f1,by simpa using h.f2⟩
theorem Rd.set2 {w:World} {g:Nat} {v:Value} {i d:Nat} (h:Rd w g v i d) (j:Nat):Rd (w.setCell ⟨g,2,none⟩ (.int .i64 j)) g v i j:=
 ⟨by simpa using h.lt,(World.cell?_setCell_other _ _ _ _ (by simp)).trans h.c0,(World.cell?_setCell_other _ _ _ _ (by simp)).trans h.c1,World.cell?_setCell_same _ _ _ h.c2,by simpa using h.f1,by simpa using h.f2⟩
def Ry (g:Nat) (w:World) (v:Value) (L:List Tok):Prop:=
 ∃A c,v=.slice A L.length c/\L.length<=c/\(∀i t,L[i]?=some t->∃b,A=some ⟨b,0,none⟩/\b<g/\
  w.cell? ⟨b,i*4,none⟩=some (.int .i64 t.kind)/\w.cell? ⟨b,i*4+1,none⟩=some (.string ⟨t.text.toArray⟩)/\w.cell? ⟨b,i*4+2,none⟩=some (.int .i64 t.n)/\w.cell? ⟨b,i*4+3,none⟩=some (.int .i64 t.pl))
theorem Ry.read {g:Nat} {w:World} {v:Value} {L:List Tok} (h:Ry g w v L) (hg:g<w.heap.size):GX w v L:=by
 obtain⟨A,c,hv,hc,hr⟩:=h;refine⟨A,c,hv,hc,fun i t hi=>?_⟩;obtain⟨b,hA,hb,r⟩:=hr i t hi;exact⟨b,hA,by omega,r⟩
theorem Ry.keep {g:Nat} {w w':World} {v:Value} {L:List Tok} (h:Ry g w v L) (hg:g<w.heap.size) (hk:Ac g w w'):Ry g w' v L:=by
 obtain⟨A,c,hv,hc,hr⟩:=h;refine⟨A,c,hv,hc,fun i t hi=>?_⟩;obtain⟨b,hA,hb,h0,h1,h2,h3⟩:=hr i t hi;have e:∀j,w'.cell? ⟨b,j,none⟩=w.cell? ⟨b,j,none⟩:=fun j=>hk.cell (by omega) (by omega)
 exact⟨b,hA,hb,by rw[e];exact h0,by rw[e];exact h1,by rw[e];exact h2,by rw[e];exact h3⟩
theorem Tabs.keep {g:Nat} {w w':World} (h:Tabs w) (h1:8<g) (hg:g<w.heap.size) (hk:Ac g w w'):Tabs w':=h.same fun k hk'=>hk.block k (by omega) (by omega)
theorem Bn.keep {g B:Nat} {w w':World} {v:Value} {L:List Nod} (h:Bn w B v L) (hB:g<B) (hk:Ac g w w'):Bn w' B v L:=by
 obtain⟨h1,h2⟩:=h;refine⟨h1,?_⟩;rcases h2 with h2|⟨b,cap,cur,hv,hg,hh,r⟩
 ·exact .inl h2
 ·exact .inr ⟨b,cap,cur,hv,hg,(hk.block b (Array.getElem?_eq_some_iff.1 hh).1 (by omega)).trans hh,r⟩
end Go.Proofs.YthfkpalfopdmhaaGreatDoor
