/- Texts of the walk, packed. -/
import Derived.Test.YthfkpalfopdmhaaGreatDoorW25
import Derived.Test.YthfkpalfopdmhaaGreatDoorW29
import Derived.Test.YthfkpalfopdmhaaGreatDoorW34
import Derived.Test.YthfkpalfopdmhaaGreatDoorW27
import Derived.Test.YthfkpalfopdmhaaGreatDoorW15
import Derived.Deep.RegionWith
import Derived.Deep.CutRange
import Derived.Test.YthfkpalfopdmhaaGreatDoorW16
import Derived.Test.YthfkpalfopdmhaaGreatDoorW00
namespace Go.Proofs.YthfkpalfopdmhaaGreatDoor
open Go.RowKit
theorem QAX {K:List Sv} {i j:Nat} {x:Sv} (h:K[i]?=some x) (hj:j<9):(Bc K)[i*9+j]?=(A8 x)[j]?:=by
 obtain⟨hi,rfl⟩:=List.getElem?_eq_some_iff.1 h;have e:K=K.take i++([K[i]]++K.drop (i+1)):=by
  rw[List.singleton_append,<-List.drop_eq_getElem_cons hi,List.take_append_drop]
 have hl:(Bc (K.take i)).length=i*9:=by rw[J8,List.length_take,Nat.min_eq_left (by omega)]
 have e1:Bc [K[i]]=A8 K[i]:=by simp[Bc]
 have hx:(A8 K[i]).length=9:=rfl
 conv=>lhs;rw[e,ER,ER,e1]
 rw[List.getElem?_append_right (by omega),hl,Nat.add_sub_cancel_left,List.getElem?_append_left (by omega)]
theorem Ec.read {w:World} {B:Nat} {v:Value} {M:List Stm} (h:Ec w B v M):BG w v M:=by
 obtain⟨K,hM,⟨hl,hr⟩,hrd⟩:=h;have hlen:M.length=K.length:=by rw[<-hM,List.length_map]
 rcases hr with⟨rfl,h0⟩|⟨g,cap,cur,rfl,hB,hh,hc,hm,hs,ht⟩
 ·have:M=[]:=List.eq_nil_of_length_eq_zero (by omega);subst this;exact Ws w
 ·refine⟨some ⟨g,0,none⟩,cap,by rw[hlen],by rw[hlen];exact hc,hm,fun i t hi=>?_⟩;rw[<-hM,List.getElem?_map]at hi;cases hK:K[i]? with
  |none=>rw[hK]at hi;cases hi
  |some x=>
   rw[hK]at hi;obtain rfl:x.s=t:=Option.some.inj hi;obtain⟨r1,r2⟩:=hrd x (List.mem_of_getElem? hK);obtain⟨AE,cE,hvE,q1⟩:=r1.rd;obtain⟨AF,cF,hvF,q2⟩:=r2.rd;have hiK:=(List.getElem?_eq_some_iff.1 hK).1;have hc9:∀j u,j<9->(A8 x)[j]?=some u->w.cell? ⟨g,0+i*9+j,none⟩=some u:=by
    intro j u hj hu;rw[Nat.zero_add,Lib.cell_of_heap hh];have h1:=QAX hK hj;rw[hu,<-ht,List.getElem?_take,if_pos (by have:=Nat.mul_le_mul_right 9 hiK;omega),Array.getElem?_toList]at h1;exact h1
   refine⟨g,0,AE,x.s.e.length,cE,AF,x.s.f.length,cF,rfl,(Array.getElem?_eq_some_iff.1 hh).1,hc9 0 _ (by omega) rfl,hc9 1 _ (by omega) rfl,hc9 2 _ (by omega) rfl,?_,?_,hc9 5 _ (by omega) rfl,hc9 6 _ (by omega) rfl,hc9 7 _ (by omega) rfl,hc9 8 _ (by omega) rfl,?_,?_⟩
   ·rw[<-hvE];exact hc9 3 _ (by omega) rfl
   ·rw[<-hvF];exact hc9 4 _ (by omega) rfl
   ·rw[<-hvE];exact r1.rd
   ·rw[<-hvF];exact r2.rd
theorem Ec.form {w:World} {B:Nat} {v:Value} {M:List Stm} {n:Nat} (h:Ec w B v M) (hn:M.length=n+1):∃g cap,v=.slice (some ⟨g,0,none⟩) (n+1) cap/\n+1<=cap/\cap<=9223372036854775807:=by
 obtain⟨K,hM,⟨hl,hr⟩,hrd⟩:=h;have hlen:M.length=K.length:=by rw[<-hM,List.length_map]
 rcases hr with⟨rfl,h0⟩|⟨g,cap,cur,rfl,hB,hh,hc,hm,hs,ht⟩
 ·omega
 ·unfold maxLen at hm;exact⟨g,cap,by rw[<-hlen,hn],by omega,by omega⟩
set_option maxRecDepth 100000 in
set_option maxHeartbeats 2000000 in
theorem QEv {F:Nat} (eg:Enters F) {q:Bool} {bx:Nat} {w:World} {x:(List UInt8)} (hbx:w.cell? ⟨bx,0,none⟩=some (.func (.func F) #[] #[])) (_hl:bx<w.heap.size)
  (hF:∀w',Below w.heap.size w w'->Calls Tryz.prog F #[.string ⟨x.toArray⟩] w' (AK q w')):Calls Tryz.prog 196 #[.string ⟨x.toArray⟩,.pointer (some ⟨bx,0,none⟩)] w (AK (!q) w):=by
 unfold Enters at eg;have HF:=AA hF;clear hF;go_enter Tryz.func196,Tryz.ntmps196;go_wp2_with fail
 refine(HF.out _ (Below.refl _ _)).mono ?_;rintro e w1 ⟨rfl,hb⟩;have HB:=AA hb;clear hb;go_wp2_with fail
 go_ret;exact⟨rfl,HB.out⟩
set_option maxRecDepth 100000 in
set_option maxHeartbeats 2000000 in
theorem QEw {F:Nat} (eg:Enters F) {p:List UInt8->Bool} {L:List (List UInt8)} {v:Value} {w:World} {B bx:Nat} (h:CS w B v L) (hl:L.length<=100000) (hbx:w.cell? ⟨bx,0,none⟩=some (.func (.func F) #[] #[])) (hlb:bx<w.heap.size)
  (hF:∀x∈L,∀w',Below w.heap.size w w'->Calls Tryz.prog F #[.string ⟨x.toArray⟩] w' (AK (p (x)) w')):Calls Tryz.prog 223 #[v,.func (.func 196) #[] #[.pointer (some ⟨bx,0,none⟩)]] w (Q5 (!L.all (fun x=>p (x))) w):=by
 have HF:=AA hF;have HO:=AA h;have HG:=AA eg;have HX:=AA hbx;obtain⟨A,c,hv,hc,hm,hr⟩:=h.reads;subst hv;clear hr hF eg hbx;go_enter Tryz.func223,Tryz.ntmps223;go_wp2_with fail
 go_loopw [8] (fun i wr=>∃k:Nat,k<=L.length/\i=.int .i64 k/\(L.take k).all (fun x=>p (x))=true/\Below w.heap.size w wr) (fun i _=>L.length-(intOf i).toNat)
 case atStart=>exact⟨0,Nat.zero_le _,rfl,rfl,Below.refl _ _⟩
 case round=>
  obtain⟨k,hk,rfl,ha,hb⟩:=hrel;have HA:=AA ha;have HB:=AA hb;clear ha;by_cases hlt:k<L.length
  ·have hat:L[k]?=some L[k]:=List.getElem?_eq_getElem hlt;have hin:=List.getElem_mem hlt;generalize L[k]=a at *;obtain⟨A',c',hv',_,_,hr'⟩:=(HO.out.on hb).reads;obtain⟨rfl,_,rfl⟩:A=A'/\True/\c=c':=by simpa using hv'
   obtain⟨g,rfl,hgB,hg,x0⟩:=hr' k a hat;clear hr' hv' hgB;have HC:Hid (Calls Tryz.prog 196 #[.string ⟨a.toArray⟩,.pointer (some ⟨bx,0,none⟩)] wr (AK (!p (a)) wr)):=AA (QEv HG.out ((hb.cell (p:=⟨bx,0,none⟩) hlb).trans HX.out) (by have:=hb.size;omega) (fun w' h'=>HF.out a hin w' (AC hb h')));clear hb;cases hw:p (a)with
   |true=>
    have HN:=AA (Q3 (p:=fun x=>p (x)) hat HA.out hw);have HW:=AA hw;clear hat hw;go_wp2_with fail
    refine HC.out.mono ?_;rw[HW.out];rintro e w1 ⟨rfl,hb⟩;have HB2:=AA (AC HB.out hb);clear hb;go_wp2_with fail
    go_roundw;case rel=>exact⟨k+1,by omega,by go_num,HN.out,HB2.out⟩
    case measure=>simp[intOf];omega
   |false=>
    have HN:=AA (Q4 (p:=fun x=>p (x)) hat hw);have HW:=AA hw;clear hat hw;go_wp2_with fail
    refine HC.out.mono ?_;rw[HW.out];rintro e w1 ⟨rfl,hb⟩;have HB2:=AA (AC HB.out hb);clear hb;go_wp2_with fail
    go_ret;exact⟨k,rfl,by rw[HN.out];simp,HB2.out⟩
  ·go_wp2_with fail
   go_ret;have h1:=HA.out;rw[List.take_of_length_le (by omega)]at h1;exact⟨-1,rfl,by rw[h1];rfl,HB.out⟩
set_option maxRecDepth 100000 in
set_option maxHeartbeats 2000000 in
theorem QCi {F:Nat} (eg:Enters F) {p:List UInt8->Bool} {L:List (List UInt8)} {v:Value} {w:World} {B bx:Nat} (h:CS w B v L) (hl:L.length<=100000) (hbx:w.cell? ⟨bx,0,none⟩=some (.func (.func F) #[] #[])) (hlb:bx<w.heap.size)
  (hF:∀x∈L,∀w',Below w.heap.size w w'->Calls Tryz.prog F #[.string ⟨x.toArray⟩] w' (AK (p (x)) w')):Calls Tryz.prog 195 #[v,.func (.func 196) #[] #[.pointer (some ⟨bx,0,none⟩)]] w (AK (!L.all (fun x=>p (x))) w):=by
 have HI:=AA (QEw eg h hl hbx hlb hF);clear h hF eg hbx;go_enter Tryz.func195,Tryz.ntmps195;go_wp2_with fail
 refine HI.out.mono ?_;rintro e w1 ⟨n,rfl,hn,hb⟩;have HB:=AA hb;have HN:=AA hn;clear hb hn;go_wp2_with fail
 go_ret;exact⟨AH HN.out,HB.out⟩
set_option maxRecDepth 100000 in
set_option maxHeartbeats 2000000 in
theorem QEx {F:Nat} (eg:Enters F) (p:List UInt8->Bool) {L:List (List UInt8)} {v:Value} {w:World} {B:Nat} (h:CS w B v L) (hl:L.length<=100000)
  (hF:∀x∈L,∀w',Below w.heap.size w w'->Calls Tryz.prog F #[.string ⟨x.toArray⟩] w' (AK (p (x)) w')):Calls Tryz.prog 154 #[v,.func (.func F) #[] #[]] w (AK (L.all (fun x=>p (x))) w):=by
 have HB0:Hid (Below w.heap.size w (w.alloc (.cells #[.func (.func F) #[] #[]] 33))):=AA ((Below.refl _ _).alloc (Nat.le_refl _) _);have HI:Hid (Calls Tryz.prog 195 #[v,.func (.func 196) #[] #[.pointer (some ⟨w.heap.size,0,none⟩)]] (w.alloc (.cells #[.func (.func F) #[] #[]] 33)) (AK (!L.all (fun x=>p (x))) (w.alloc (.cells #[.func (.func F) #[] #[]] 33)))):=
  AA (QCi eg (h.on HB0.out) hl (by simp) (by simp) (fun x hx w' h'=>hF x hx w' (AC HB0.out h')))
 clear h hF eg;go_enter Tryz.func154,Tryz.ntmps154;go_wp2_with fail
 refine HI.out.mono ?_;rintro e w1 ⟨rfl,hb⟩;have HB:=AA (AC HB0.out hb);clear hb;go_wp2_with fail
 go_ret;exact⟨AH (by simp),HB.out⟩
set_option maxRecDepth 100000 in
set_option maxHeartbeats 2000000 in
theorem QGU (c:Nod) (w:World):Calls Tryz.prog 148 #[.agg #[.int .i64 c.op,.int .i64 c.n,.string ⟨c.name.toArray⟩,.int .i64 c.pl]] w (fun e w'=>e=.returned (.agg #[.int .i64 c.op,.int .i64 c.n,.string ⟨c.name.toArray⟩,.int .i64 0])/\Below w.heap.size w w'):=by
 go_enter Tryz.func148,Tryz.ntmps148;go_wp2_with fail
 refine bodyPost_ret (v:=.agg #[.int .i64 c.op,.int .i64 c.n,.string ⟨c.name.toArray⟩,.int .i64 0]) (by simp[results,Tryz.results148,go_sem]) rfl ?_;refine⟨rfl,?_⟩;repeat(first|exact Below.refl _ _|(refine Below.setCell ?_ (by simp) _)|(refine Below.alloc ?_ (by simp) _))
set_option maxRecDepth 100000 in
set_option maxHeartbeats 8000000 in
theorem QGV {K:List Nod} {v:Value} {w:World} (h:Ax w v K) (hl:K.length<=10000):
  Calls Tryz.prog 147 #[v,.func (.func 148) #[] #[]] w (fun e w'=>∃u,e=.returned u/\Bn w' w.heap.size u (K.map bareN)/\Below w.heap.size w w'):=by
 obtain⟨i0,hi0,hz0,hz1,hz2⟩:=info_parts info30;have HZ:=AA (show Tryz.prog.info? 46=some i0/\i0.zero=some (.agg #[.int .i64 0,.int .i64 0,.string ⟨#[]⟩,.int .i64 0])/\i0.size=4/\i0.bytes=40 from⟨hi0,hz0,hz1,hz2⟩);have HO:=AA h;obtain⟨A,c,rfl,hc,hm1,hr1⟩:=h;clear hi0 hz0 hz1 hz2 hr1;go_enter Tryz.func147,Tryz.ntmps147;go_wp2_with fail
 go_loopw [5,10] (fun all i wr=>∃k:Nat,k<=K.length/\i=.int .i64 k/\Below w.heap.size w wr/\Bn wr w.heap.size all ((K.take k).map bareN)) (fun _ i _=>K.length-(intOf i).toNat)
 case atStart=>exact⟨0,Nat.zero_le _,rfl,Below.refl _ _,E8 _ _⟩
 case round=>
  obtain⟨k,hk,rfl,hbel,hacc⟩:=hrel;have HB:=AA hbel;have HA:=AA hacc;have hsz:=hbel.size;by_cases hlt:k<K.length
  ·have ha:K[k]?=some K[k]:=List.getElem?_eq_getElem hlt;generalize K[k]=a at *;have HT:Hid ((K.take (k+1)).map bareN=(K.take k).map bareN++[bareN a]):=AA (by rw[List.take_add_one,ha,List.map_append];rfl);have HN:Hid (((K.take k).map bareN).length=k):=AA (by simp;omega);obtain⟨A2,c2,hv,_,_,hr⟩:=HO.out.on hbel;obtain⟨rfl,_,rfl⟩:A=A2/\True/\c=c2:=by simpa using hv
   obtain⟨g,o,rfl,hg,x0,x1,x2,x3⟩:=hr k a ha;obtain⟨A3,c3,rfl, -, -, -⟩:=AS hacc;generalize(K.take k).map bareN=acc at *;clear ha hr hv hbel hacc;go_wp2_with fail
   refine(QGU a _).mono ?_;rintro e w1 ⟨rfl,hb⟩;have HB1:=AA ((HB.out.alloc hsz _).trans (hb.mono (by simp;omega)));have HA1:=AA (AO (P:=fun _=>False) HA.out (AG.of (((Below.refl wr.heap.size wr).alloc (Nat.le_refl _) _).trans (hb.mono (by simp)))) (fun _ _=>id));have hsz1:=HB1.out.size;have hk1:=hlt;clear hb
   go_wp2_with (at_builtin;refine wpList_append_own _ rfl (.tmp 14) (.tmp 18) 42 rfl w.heap.size 46 i0 (.agg #[.int .i64 0,.int .i64 0,.string ⟨#[]⟩,.int .i64 0]) 4 40 Tryz.underlying42 HZ.out.1 HZ.out.2.1 HZ.out.2.2.1 HZ.out.2.2.2 rfl (by decide) _ acc.length (DR acc) rfl ?dO ⟨w1.heap.size,0,none⟩ 1 1 (BN (bareN a)) (by rfl) (by rfl) ?d1 ?d2 ?d3 ?d4 ?d5 ?_)
   case dO=>exact AO (P:=fun _=>False) HA1.out (AG.of ((Below.refl w1.heap.size w1).alloc (Nat.le_refl _) _)) (fun _ _=>id)
   case d1=>exact World.news_of_block (cs:=(BN (bareN a)).toArray) (alloc_at rfl)
   case d2=>intro u hu;exact TU [bareN a] u (by rw[J0];exact hu)
   case d3=>rw[HN.out];unfold maxLen;omega
   case d4=>rw[HN.out];omega
   case d5=>simp;omega
   intro v5 w5 hown5 hgrow5 _;have HB5:Hid (Below w.heap.size w w5):=AA ((HB1.out.alloc hsz1 _).grown hgrow5 (by simp;omega) (fun q hq=>(AI HA1.out q hq).1));have HA5:Hid (Bn w5 w.heap.size v5 (acc++[bareN a])):=AA (by
    unfold Bn;rw[MA,J0,List.length_append];exact hown5)
   obtain⟨A5,n5,c5,rfl⟩:∃A n c,v5=.slice A n c:=by
    obtain⟨A,c,hv,_⟩:=AS hown5;exact⟨A,_,c,hv⟩
   clear hown5 hgrow5;go_wp2_with fail
   go_roundw;case rel=>exact⟨k+1,by omega,by go_num,HB5.out,by rw[HT.out];exact HA5.out⟩
   case measure=>simp[intOf];omega
  ·have hkk:K.take k=K:=List.take_of_length_le (by omega);rw[hkk]at HA;clear hbel hacc;go_wp2_with fail
   go_ret;exact⟨_,rfl,HA.out,HB.out⟩
set_option maxRecDepth 100000 in
set_option maxHeartbeats 2000000 in
theorem Ud {K:List Nod} {v:Value} {w:World} (h:Ax w v K) (hl:K.length<=10000):
  Calls Tryz.prog 98 #[v] w (fun e w'=>∃u,e=.returned u/\Bn w' w.heap.size u (K.map bareN)/\Below w.heap.size w w'):=by
 have HC:=AA (QGV h hl);clear h;go_enter Tryz.func98,Tryz.ntmps98;go_wp2_with fail
 refine HC.out.mono ?_;rintro e w1 ⟨u,rfl,ho,hb⟩;have HB:=AA hb;have HO:=AA ho;obtain⟨A,c,rfl, -, -, -⟩:=AS ho;clear hb ho;go_wp2_with fail
 go_ret;have h9:=HO.out;rw[List.length_map]at h9;exact⟨_,rfl,h9,HB.out⟩
theorem An {P:Nat->Prop} {w w':World} {p:Addr} {u:Value} (h:AG P w w') (hP:P p.block):AG P w (w'.setCell p u):=
 h.trans (Q:=fun q=>q=p.block) ⟨rfl,rfl,rfl,by simp[World.setCell],fun k _ hk=>Below.heap_setCell _ _ _ _ hk⟩ (fun _ _ h=>h) (fun k _ e=>e▸hP)
theorem AY {w:World} {B T j:Nat} {cs:Array Value} {v:Value} (h:w.heap[B]?=some (.cells cs T (0,0))):(w.setCell ⟨B,j,none⟩ v).heap[B]?=some (.cells (cs.setIfInBounds j v) T (0,0)):=by
 obtain⟨hlt,hk⟩:=Array.getElem?_eq_some_iff.1 h;show(w.heap.modify B _)[B]?=_;rw[Array.getElem?_eq_getElem (by rw[Array.size_modify];exact hlt),Array.getElem_modify_self,hk];rfl
theorem CV {w:World} {B C j:Nat} {v:Value} {o:Obj} (h:w.heap[B]?=some o) (hn:B≠C):(w.setCell ⟨C,j,none⟩ v).heap[B]?=some o:=by
 rw[Below.heap_setCell w ⟨C,j,none⟩ v B hn];exact h
theorem QDD {w:World} {d T:Nat} {a0 a1 a2 a3 a4 a5 a6 a7 a8:Value} (h:w.heap[d]?=some (.cells #[a0,a1,a2,a3,a4,a5,a6,a7,a8] T (0,0))) (u0 u1 u2 u3 u4 u5 u6 u7 u8:Value):((((((((((w.setCell ⟨d,0,none⟩ u0).setCell ⟨d,1,none⟩ u1).setCell ⟨d,2,none⟩ u2).setCell ⟨d,3,none⟩ u3).setCell ⟨d,4,none⟩ u4).setCell ⟨d,5,none⟩ u5).setCell ⟨d,6,none⟩ u6).setCell ⟨d,7,none⟩ u7).setCell ⟨d,8,none⟩ u8)).heap[d]?=some (.cells #[u0,u1,u2,u3,u4,u5,u6,u7,u8] T (0,0)):=by
 have h0:(w.setCell ⟨d,0,none⟩ u0).heap[d]?=some (.cells #[u0,a1,a2,a3,a4,a5,a6,a7,a8] T (0,0)):=AY h;have h1:((w.setCell ⟨d,0,none⟩ u0).setCell ⟨d,1,none⟩ u1).heap[d]?=some (.cells #[u0,u1,a2,a3,a4,a5,a6,a7,a8] T (0,0)):=AY h0;have h2:(((w.setCell ⟨d,0,none⟩ u0).setCell ⟨d,1,none⟩ u1).setCell ⟨d,2,none⟩ u2).heap[d]?=some (.cells #[u0,u1,u2,a3,a4,a5,a6,a7,a8] T (0,0)):=AY h1;have h3:((((w.setCell ⟨d,0,none⟩ u0).setCell ⟨d,1,none⟩ u1).setCell ⟨d,2,none⟩ u2).setCell ⟨d,3,none⟩ u3).heap[d]?=some (.cells #[u0,u1,u2,u3,a4,a5,a6,a7,a8] T (0,0)):=AY h2
 have h4:(((((w.setCell ⟨d,0,none⟩ u0).setCell ⟨d,1,none⟩ u1).setCell ⟨d,2,none⟩ u2).setCell ⟨d,3,none⟩ u3).setCell ⟨d,4,none⟩ u4).heap[d]?=some (.cells #[u0,u1,u2,u3,u4,a5,a6,a7,a8] T (0,0)):=AY h3;have h5:((((((w.setCell ⟨d,0,none⟩ u0).setCell ⟨d,1,none⟩ u1).setCell ⟨d,2,none⟩ u2).setCell ⟨d,3,none⟩ u3).setCell ⟨d,4,none⟩ u4).setCell ⟨d,5,none⟩ u5).heap[d]?=some (.cells #[u0,u1,u2,u3,u4,u5,a6,a7,a8] T (0,0)):=AY h4
 have h6:(((((((w.setCell ⟨d,0,none⟩ u0).setCell ⟨d,1,none⟩ u1).setCell ⟨d,2,none⟩ u2).setCell ⟨d,3,none⟩ u3).setCell ⟨d,4,none⟩ u4).setCell ⟨d,5,none⟩ u5).setCell ⟨d,6,none⟩ u6).heap[d]?=some (.cells #[u0,u1,u2,u3,u4,u5,u6,a7,a8] T (0,0)):=AY h5;have h7:((((((((w.setCell ⟨d,0,none⟩ u0).setCell ⟨d,1,none⟩ u1).setCell ⟨d,2,none⟩ u2).setCell ⟨d,3,none⟩ u3).setCell ⟨d,4,none⟩ u4).setCell ⟨d,5,none⟩ u5).setCell ⟨d,6,none⟩ u6).setCell ⟨d,7,none⟩ u7).heap[d]?=some (.cells #[u0,u1,u2,u3,u4,u5,u6,u7,a8] T (0,0)):=AY h6
 have h8:(((((((((w.setCell ⟨d,0,none⟩ u0).setCell ⟨d,1,none⟩ u1).setCell ⟨d,2,none⟩ u2).setCell ⟨d,3,none⟩ u3).setCell ⟨d,4,none⟩ u4).setCell ⟨d,5,none⟩ u5).setCell ⟨d,6,none⟩ u6).setCell ⟨d,7,none⟩ u7).setCell ⟨d,8,none⟩ u8).heap[d]?=some (.cells #[u0,u1,u2,u3,u4,u5,u6,u7,u8] T (0,0)):=AY h7;exact h8
theorem QE9 {w:World} {d T:Nat} {a0 a1 a2 a3 a4 a5 a6 a7 a8:Value} (h:w.heap[d]?=some (.cells #[a0,a1,a2,a3,a4,a5,a6,a7,a8] T (0,0))) (u v:Value):((w.setCell ⟨d,3,none⟩ u).setCell ⟨d,4,none⟩ v).heap[d]?=some (.cells #[a0,a1,a2,u,v,a5,a6,a7,a8] T (0,0)):=by
 have h1:(w.setCell ⟨d,3,none⟩ u).heap[d]?=some (.cells #[a0,a1,a2,u,a4,a5,a6,a7,a8] T (0,0)):=AY h;exact AY h1
theorem QAy {b d:Nat} (w:World) (v u0 u1 u2 u3 u4 u5 u6 u7 u8:Value):AG (fun q=>q=b\/q=d) w ((((((((((w.setCell ⟨b,8,none⟩ v).setCell ⟨d,0,none⟩ u0).setCell ⟨d,1,none⟩ u1).setCell ⟨d,2,none⟩ u2).setCell ⟨d,3,none⟩ u3).setCell ⟨d,4,none⟩ u4).setCell ⟨d,5,none⟩ u5).setCell ⟨d,6,none⟩ u6).setCell ⟨d,7,none⟩ u7).setCell ⟨d,8,none⟩ u8):=(An (An (An (An (An (An (An (An (An (An (AG.refl _ _) (.inl rfl)) (.inr rfl)) (.inr rfl)) (.inr rfl)) (.inr rfl)) (.inr rfl)) (.inr rfl)) (.inr rfl)) (.inr rfl)) (.inr rfl))
def QAz (x:Stm) (w:World) (e:Ending) (w':World):Prop:=∃u1 u2,e=.returned (Rb (bareS x) u1 u2)/\Bn w' w.heap.size u1 (x.e.map bareN)/\Bn w' w.heap.size u2 (x.f.map bareN)/\Below w.heap.size w w'
def V8 (k:Int) (reg name:List UInt8) (e f:List Nod) (n body els pl:Int) (b d BY:Nat) (w wx:World):Prop:=∃A1 c1 A2 c2,wx.heap[b]?=some (.cells #[.int .i64 k,.string ⟨reg.toArray⟩,.string ⟨name.toArray⟩,.slice A1 e.length c1,.slice A2 f.length c2,.int .i64 n,.int .i64 body,.int .i64 els,.int .i64 pl] 44 (0,0))/\wx.heap[d]?=some (.cells #[.int .i64 0,.string ⟨#[]⟩,.string ⟨#[]⟩,.slice none 0 0,.slice none 0 0,.int .i64 0,.int .i64 0,.int .i64 0,.int .i64 0] 44 (0,0))/\Bn wx BY (.slice A1 e.length c1) (e.map bareN)/\Bn wx BY (.slice A2 f.length c2) (f.map bareN)/\Below w.heap.size w wx
theorem V8.drew {k:Int} {reg name:List UInt8} {e f:List Nod} {n body els pl:Int} {b d BY:Nat} {w wx:World} (h:V8 k reg name e f n body els pl b d BY w wx):V8 k reg name e f n body els pl b d BY w wx.drew:=by
 obtain⟨A1,c1,A2,c2,h1,h2,h3,h4,h5⟩:=h;exact⟨A1,c1,A2,c2,h1,h2,h3.on (AD _),h4.on (AD _),AC h5 (AD _)⟩
set_option maxRecDepth 100000 in
set_option maxHeartbeats 8000000 in
theorem QGW (x:Stm) {vE vF:Value} {w:World} (hE:Ax w vE x.e) (hF:Ax w vF x.f) (hl:x.e.length<=10000) (hl2:x.f.length<=10000):Calls Tryz.prog 97 #[Rb x vE vF] w (QAz x w):=by
 obtain⟨k,reg,name,e,f,n,body,els,pl⟩:=x;obtain⟨AE,cE,rfl,_⟩:=id hE;obtain⟨AF,cF,rfl,_⟩:=id hF;simp only at *;have HL:=AA (And.intro hl hl2);clear hl hl2;unfold Rb;simp only;have HB1:=AA ((Below.refl w.heap.size w).alloc (Nat.le_refl _) (.cells #[.int .i64 k,.string ⟨reg.toArray⟩,.string ⟨name.toArray⟩,.slice AE e.length cE,.slice AF f.length cF,.int .i64 n,.int .i64 body,.int .i64 els,.int .i64 pl] 44));have N1:=AA (heap_alloc_new w (.cells #[.int .i64 k,.string ⟨reg.toArray⟩,.string ⟨name.toArray⟩,.slice AE e.length cE,.slice AF f.length cF,.int .i64 n,.int .i64 body,.int .i64 els,.int .i64 pl] 44))
 go_enter Tryz.func97,Tryz.ntmps97;go_upto_region 1 with(fail)
 obtain⟨b,hb⟩:∃b,w.heap.size=b:=⟨_,rfl⟩
 have hz:w.heap.size+1=(w.alloc (.cells #[.int .i64 k,.string ⟨reg.toArray⟩,.string ⟨name.toArray⟩,.slice AE e.length cE,.slice AF f.length cF,.int .i64 n,.int .i64 body,.int .i64 els,.int .i64 pl] 44)).heap.size:=by simp
 rw[hz];rw[hb]at N1⊢;generalize w.alloc (.cells #[.int .i64 k,.string ⟨reg.toArray⟩,.string ⟨name.toArray⟩,.slice AE e.length cE,.slice AF f.length cF,.int .i64 n,.int .i64 body,.int .i64 els,.int .i64 pl] 44)=X at *;have HN1X:=AA N1.out;have HB2:=AA ((Below.refl X.heap.size X).alloc (Nat.le_refl _) (.cells #[.int .i64 0,.string ⟨#[]⟩,.string ⟨#[]⟩,.slice none 0 0,.slice none 0 0,.int .i64 0,.int .i64 0,.int .i64 0,.int .i64 0] 44));have N2:=AA (heap_alloc_new X (.cells #[.int .i64 0,.string ⟨#[]⟩,.string ⟨#[]⟩,.slice none 0 0,.slice none 0 0,.int .i64 0,.int .i64 0,.int .i64 0,.int .i64 0] 44))
 have N1':=AA ((HB2.out.block b (Array.getElem?_eq_some_iff.1 N1.out).1).trans N1.out);generalize X.alloc (.cells #[.int .i64 0,.string ⟨#[]⟩,.string ⟨#[]⟩,.slice none 0 0,.slice none 0 0,.int .i64 0,.int .i64 0,.int .i64 0,.int .i64 0] 44)=Y at *;have HB:=AA (AC HB1.out HB2.out);have HEat:=AA (fun w' (h':Below Y.heap.size Y w')=>Ud ((hE.on HB.out).on h') HL.out.1);have HFat:=AA (fun w' (h':Below Y.heap.size Y w')=>Ud ((hF.on HB.out).on h') HL.out.2);have z3:Y.cell? ⟨b,3,none⟩=some (.slice AE e.length cE):=by rw[Lib.cell_of_heap N1'.out];rfl
 have z4:Y.cell? ⟨b,4,none⟩=some (.slice AF f.length cF):=by rw[Lib.cell_of_heap N1'.out];rfl
 have hlt:=(Array.getElem?_eq_some_iff.1 N1'.out).1;have HLW:=AA (show w.heap.size<=b/\w.heap.size<=X.heap.size from⟨by omega,by omega⟩);clear N1 HB1 HB2 hz hE hF;obtain⟨d,hd⟩:∃d,X.heap.size=d:=⟨_,rfl⟩
 rw[hd]at N2⊢;have hne:b≠d:=by have:=(Array.getElem?_eq_some_iff.1 HN1X.out).1;omega
 have hlt1:=(Array.getElem?_eq_some_iff.1 N2.out).1;have HLOW:Hid (w.heap.size<=b/\w.heap.size<=d):=AA (by have:=HLW.out;omega)
 go_cut []from 3 to 10 (fun wx=>V8 k reg name e f n body els pl b d Y.heap.size w wx)
 case first=>
  go_region_with (first|(go_at_call 98;first
   |(refine(HEat.out _ (by first|exact Below.refl _ _|exact AD _)).mono ?_;rintro e1 w1 ⟨u1,rfl,ho1,hb1⟩;have hx1:=(hb1.block b hlt).trans N1'.out;have y4:w1.cell? ⟨b,4,none⟩=some (.slice AF f.length cF):=(by rw[Lib.cell_of_heap hx1];rfl);obtain⟨A1,c1,hv1, -, -, -⟩:=AS ho1;subst hv1)
   |(refine(HFat.out _ (by first|exact AC (AD _) hb1|exact AC (AC (AD _) hb1) (AD _))).mono ?_;rintro e2 w2 ⟨u2,rfl,ho2,hb2⟩;have hx2:=(hb2.block b (Array.getElem?_eq_some_iff.1 hx1).1).trans hx1;have hlt2:=(Array.getElem?_eq_some_iff.1 hx2).1;have x3:w2.cell? ⟨b,3,none⟩=some (.slice AE e.length cE):=(by rw[Lib.cell_of_heap hx2];rfl);have x4:w2.cell? ⟨b,4,none⟩=some (.slice AF f.length cF):=(by rw[Lib.cell_of_heap hx2];rfl);have f3:=Lib.frozen_of_heap hx2 3;have f4:=Lib.frozen_of_heap hx2 4;obtain⟨A2,c2,hv2, -, -, -⟩:=AS ho2;subst hv2)))
  all_goals
   have hd1:=(hb1.block d hlt1).trans N2.out;have hd2:=(hb2.block d (Array.getElem?_eq_some_iff.1 hd1).1).trans hd1;have hm1:(e.map bareN).length=e.length:=List.length_map _;have hm2:(f.map bareN).length=f.length:=List.length_map _;rw[hm1]at ho1;rw[hm2]at ho2;have HO1:Bn w2 Y.heap.size (.slice A1 e.length c1) (e.map bareN):=by first|exact ho1.on hb2|exact(ho1.on (AD _)).on hb2
   have HO2:Bn w2 Y.heap.size (.slice A2 f.length c2) (f.map bareN):=ho2.base (by have:=hb1.size;first|exact this|(simp;exact this));have HY2:Below Y.heap.size Y w2:=AC (by first|exact hb1|exact AC (AD _) hb1) (by first|exact hb2|exact AC (AD _) hb2);have hbY:=(Array.getElem?_eq_some_iff.1 N1'.out).1;have hZ:((w2.setCell ⟨b,3,none⟩ (.slice A1 e.length c1)).setCell ⟨b,4,none⟩ (.slice A2 f.length c2)).heap[b]?=some (.cells #[.int .i64 k,.string ⟨reg.toArray⟩,.string ⟨name.toArray⟩,.slice A1 e.length c1,.slice A2 f.length c2,.int .i64 n,.int .i64 body,.int .i64 els,.int .i64 pl] 44 (0,0)):=QE9 hx2 _ _
   have hzd:((w2.setCell ⟨b,3,none⟩ (.slice A1 e.length c1)).setCell ⟨b,4,none⟩ (.slice A2 f.length c2)).heap[d]?=some (.cells #[.int .i64 0,.string ⟨#[]⟩,.string ⟨#[]⟩,.slice none 0 0,.slice none 0 0,.int .i64 0,.int .i64 0,.int .i64 0,.int .i64 0] 44 (0,0)):=CV (CV hd2 (fun h=>hne h.symm)) (fun h=>hne h.symm);have HKZ:AG (fun q=>q=b) w2 ((w2.setCell ⟨b,3,none⟩ (.slice A1 e.length c1)).setCell ⟨b,4,none⟩ (.slice A2 f.length c2)):=An (An (AG.refl _ _) rfl) rfl;have HOZ1:=AO HO1 HKZ (fun q hq h=>by have:=(AI HO1 q hq).1;omega)
   have HOZ2:=AO HO2 HKZ (fun q hq h=>by have:=(AI HO2 q hq).1;omega);have HBZ:=(AC HB.out HY2).trans (HKZ.below (B:=w.heap.size) (fun k hk h=>by omega) (AC HB.out HY2).size);have HR:=AA (show V8 k reg name e f n body els pl b d Y.heap.size w ((w2.setCell ⟨b,3,none⟩ (.slice A1 e.length c1)).setCell ⟨b,4,none⟩ (.slice A2 f.length c2))from⟨A1,c1,A2,c2,hZ,hzd,HOZ1,HOZ2,HBZ⟩);clear hZ hzd HKZ HOZ1 HOZ2 HBZ HY2 HO1 HO2 hx1 hx2 hd1 hd2 ho1 ho2 hb1 hb2;go_wp2_with fail
   go_meet;case rel=>first|exact HR.out|exact HR.out.drew
 case rest=>
  obtain⟨A1,c1,A2,c2,hZ,hzd,ho1,ho2,hbz⟩:=hcut;generalize wc=Z at *;have HO1Z:=AA ho1;have HO2Z:=AA ho2;have HBZ:=AA hbz;have hYb:b<Y.heap.size/\d<Y.heap.size:=⟨hlt,hlt1⟩
  have HYB:=AA hYb;have z0:Z.cell? ⟨b,0,none⟩=some (.int .i64 k):=by rw[Lib.cell_of_heap hZ];rfl
  have z1:Z.cell? ⟨b,1,none⟩=some (.string ⟨reg.toArray⟩):=by rw[Lib.cell_of_heap hZ];rfl
  have z2:Z.cell? ⟨b,2,none⟩=some (.string ⟨name.toArray⟩):=by rw[Lib.cell_of_heap hZ];rfl
  have z3:Z.cell? ⟨b,3,none⟩=some (.slice A1 e.length c1):=by rw[Lib.cell_of_heap hZ];rfl
  have z4:Z.cell? ⟨b,4,none⟩=some (.slice A2 f.length c2):=by rw[Lib.cell_of_heap hZ];rfl
  have z5:Z.cell? ⟨b,5,none⟩=some (.int .i64 n):=by rw[Lib.cell_of_heap hZ];rfl
  have z6:Z.cell? ⟨b,6,none⟩=some (.int .i64 body):=by rw[Lib.cell_of_heap hZ];rfl
  have z7:Z.cell? ⟨b,7,none⟩=some (.int .i64 els):=by rw[Lib.cell_of_heap hZ];rfl
  have z8:Z.cell? ⟨b,8,none⟩=some (.int .i64 pl):=by rw[Lib.cell_of_heap hZ];rfl
  have f8:=Lib.frozen_of_heap hZ 8;have y0:Z.cell? ⟨d,0,none⟩=some (.int .i64 0):=by rw[Lib.cell_of_heap hzd];rfl
  have k0:=Lib.frozen_of_heap hzd 0;have y1:Z.cell? ⟨d,1,none⟩=some (.string ⟨#[]⟩):=by rw[Lib.cell_of_heap hzd];rfl
  have k1:=Lib.frozen_of_heap hzd 1;have y2:Z.cell? ⟨d,2,none⟩=some (.string ⟨#[]⟩):=by rw[Lib.cell_of_heap hzd];rfl
  have k2:=Lib.frozen_of_heap hzd 2;have y3:Z.cell? ⟨d,3,none⟩=some (.slice none 0 0):=by rw[Lib.cell_of_heap hzd];rfl
  have k3:=Lib.frozen_of_heap hzd 3;have y4:Z.cell? ⟨d,4,none⟩=some (.slice none 0 0):=by rw[Lib.cell_of_heap hzd];rfl
  have k4:=Lib.frozen_of_heap hzd 4;have y5:Z.cell? ⟨d,5,none⟩=some (.int .i64 0):=by rw[Lib.cell_of_heap hzd];rfl
  have k5:=Lib.frozen_of_heap hzd 5;have y6:Z.cell? ⟨d,6,none⟩=some (.int .i64 0):=by rw[Lib.cell_of_heap hzd];rfl
  have k6:=Lib.frozen_of_heap hzd 6;have y7:Z.cell? ⟨d,7,none⟩=some (.int .i64 0):=by rw[Lib.cell_of_heap hzd];rfl
  have k7:=Lib.frozen_of_heap hzd 7;have y8:Z.cell? ⟨d,8,none⟩=some (.int .i64 0):=by rw[Lib.cell_of_heap hzd];rfl
  have k8:=Lib.frozen_of_heap hzd 8;have HF:=AA (QDD (CV (j:=8) (v:=.int .i64 0) hzd (fun h=>hne h.symm)) (.int .i64 k) (.string ⟨reg.toArray⟩) (.string ⟨name.toArray⟩) (.slice A1 e.length c1) (.slice A2 f.length c2) (.int .i64 n) (.int .i64 body) (.int .i64 els) (.int .i64 0));have HKF:=AA (QAy (b:=b) (d:=d) Z (.int .i64 0) (.int .i64 k) (.string ⟨reg.toArray⟩) (.string ⟨name.toArray⟩) (.slice A1 e.length c1) (.slice A2 f.length c2) (.int .i64 n) (.int .i64 body) (.int .i64 els) (.int .i64 0));clear hZ hzd ho1 ho2 hbz hYb N2 N1' HEat HFat hlt hlt1;go_wp2_with fail
  generalize(((((((((Z.setCell ⟨b,8,none⟩ (.int .i64 0)).setCell ⟨d,0,none⟩ (.int .i64 k)).setCell ⟨d,1,none⟩ (.string ⟨reg.toArray⟩)).setCell ⟨d,2,none⟩ (.string ⟨name.toArray⟩)).setCell ⟨d,3,none⟩ (.slice A1 e.length c1)).setCell ⟨d,4,none⟩ (.slice A2 f.length c2)).setCell ⟨d,5,none⟩ (.int .i64 n)).setCell ⟨d,6,none⟩ (.int .i64 body)).setCell ⟨d,7,none⟩ (.int .i64 els)).setCell ⟨d,8,none⟩ (.int .i64 0)=V at *;have v0:V.cell? ⟨d,0,none⟩=some (.int .i64 k):=by rw[Lib.cell_of_heap HF.out];rfl
  have v1:V.cell? ⟨d,1,none⟩=some (.string ⟨reg.toArray⟩):=by rw[Lib.cell_of_heap HF.out];rfl
  have v2:V.cell? ⟨d,2,none⟩=some (.string ⟨name.toArray⟩):=by rw[Lib.cell_of_heap HF.out];rfl
  have v3:V.cell? ⟨d,3,none⟩=some (.slice A1 e.length c1):=by rw[Lib.cell_of_heap HF.out];rfl
  have v4:V.cell? ⟨d,4,none⟩=some (.slice A2 f.length c2):=by rw[Lib.cell_of_heap HF.out];rfl
  have v5:V.cell? ⟨d,5,none⟩=some (.int .i64 n):=by rw[Lib.cell_of_heap HF.out];rfl
  have v6:V.cell? ⟨d,6,none⟩=some (.int .i64 body):=by rw[Lib.cell_of_heap HF.out];rfl
  have v7:V.cell? ⟨d,7,none⟩=some (.int .i64 els):=by rw[Lib.cell_of_heap HF.out];rfl
  have v8:V.cell? ⟨d,8,none⟩=some (.int .i64 0):=by rw[Lib.cell_of_heap HF.out];rfl
  clear z0 z1 z2 z3 z4 z5 z6 z7 z8 f8 y0 y1 y2 y3 y4 y5 y6 y7 y8 k0 k1 k2 k3 k4 k5 k6 k7 k8;refine bodyPost_ret (v:=.agg #[.int .i64 k,.string ⟨reg.toArray⟩,.string ⟨name.toArray⟩,.slice A1 e.length c1,.slice A2 f.length c2,.int .i64 n,.int .i64 body,.int .i64 els,.int .i64 0]) (by simp[results,Tryz.results97,go_sem,v0,v1,v2,v3,v4,v5,v6,v7,v8]) rfl ?_;have hlow:w.heap.size<=b/\w.heap.size<=d:=HLOW.out;refine⟨.slice A1 e.length c1,.slice A2 f.length c2,rfl,?_,?_,?_⟩
  ·exact Bn.base (AO HO1Z.out HKF.out (fun q hq h=>by have:=(AI HO1Z.out q hq).1;have:=HYB.out;omega)) HB.out.size
  ·exact Bn.base (AO HO2Z.out HKF.out (fun q hq h=>by have:=(AI HO2Z.out q hq).1;have:=HYB.out;omega)) HB.out.size
  ·exact HBZ.out.trans (HKF.out.below (fun k hk h=>by omega) HBZ.out.size)
end Go.Proofs.YthfkpalfopdmhaaGreatDoor
namespace Go.Proofs.YthfkpalfopdmhaaGreatDoor
open Go
def sumW {α:Type} (wt:α->Nat):List α->Nat
 |[]=>0
 |a::l=>wt a+1+sumW wt l
theorem KX {α:Type} {wt:α->Nat} {f:α->List UInt8} {c:Nat}:∀(l:List α),(∀a∈l,(f a).length<=c*(wt a+1))->(l.flatMap f).length<=c*sumW wt l
 |[],_=>Nat.zero_le _
 |a::l,h=>by
  have h1:=h a (List.mem_cons_self ..);have h2:=KX l (fun b hb=>h b (List.mem_cons_of_mem _ hb));rw[List.flatMap_cons,List.length_append,sumW,Nat.mul_add];omega
theorem QDK {L:List Stm} (h:CP L=true):(bodyT L).length<=100000:=by
 obtain⟨k,hk,hg,hc,_,_,ht⟩:=Dq h;unfold bodyT;rw[ht];have h1:=SI k [32,32] hg;have h2:k.count*(3*([32,32]:List UInt8).length+6*k.count+2000)<=40*(3*2+6*40+2000):=Nat.mul_le_mul hc (by simp only[List.length_cons,List.length_nil];omega);simp only at h1⊢;omega
theorem WA {c:Cel} {m:Int} (hm:m<=4294967296) (h:A9 m c=true):(ET c).length<=40:=by
 unfold A9 at h;simp only[Bool.and_eq_true,decide_eq_true_eq]at h;have hn:=EH h.1.1.1;have hi:=Lib.itoa_length_le c.n (by omega) (by omega);unfold ET;split
 ·simp;omega
 ·simp only[List.length_append,List.length_cons,List.length_nil];omega
theorem TB:∀(l:List Cel) {m:Int},m<=4294967296->l.all (A9 m)=true->(Ly l).length<=42*l.length
 |[],_,_,_=>Nat.zero_le _
 |[c],m,hm,h=>by
  have:=WA hm (List.all_eq_true.1 h c (by simp));simp only[Ly,List.length_cons,List.length_nil];omega
 |c::d::l,m,hm,h=>by
  have h1:=WA hm (List.all_eq_true.1 h c (by simp));rw[List.all_cons,Bool.and_eq_true]at h;have h2:=TB (d::l) hm h.2;simp only[Ly,List.length_append,List.length_cons,List.length_nil]at h2⊢;omega
theorem Nz {wd:List UInt8} (hw:wd.length<=6) {l:List Cel} {m:Int} (hm:m<=4294967296) (h:l.all (A9 m)=true):(rowT wd l).length<=42*(l.length+1):=by
 have:=TB l hm h;unfold rowT;simp only[List.length_append,List.length_cons,List.length_nil];omega
theorem L0 {wd:List UInt8} (hw:wd.length<=6) {l:List Cel} {m:Int} (hm:m<=4294967296) (h:l.all (A9 m)=true):(Nc wd l).length<=42*(l.length+1):=by
 unfold Nc;split
 ·simp
 ·exact Nz hw hm h
theorem RL:∀(l:List (List UInt8)),l.all nameB=true->(namesT l).length<=18*l.length
 |[],_=>Nat.zero_le _
 |[c],h=>by
  have:=EH (List.all_eq_true.1 h c (by simp));simp only[namesT,List.length_cons,List.length_nil];omega
 |c::d::l,h=>by
  have h1:=EH (List.all_eq_true.1 h c (by simp));rw[List.all_cons,Bool.and_eq_true]at h;have h2:=RL (d::l) h.2;simp only[namesT,List.length_append,List.length_cons,List.length_nil]at h2⊢;omega
theorem TC {hd:List UInt8} (hh:hd.length<=30) {t:Thr} {b:Bool} (h:Bv b t=true):(B8 hd t).length<=100100*(t.regs.length+1):=by
 unfold Bv at h;simp only[Bool.and_eq_true]at h;have h1:=QDK h.1.2;have h2:=RL _ h.2;unfold B8 SQ;have:Ip.length=3:=rfl;split<;>simp only[List.length_append,List.length_cons,List.length_nil]<;>omega
theorem QA1 {c:Clm} (h:Eo c=true):(KJ c).length<=900:=by
 unfold Eo at h;simp only[Bool.and_eq_true]at h;obtain⟨x,_,h1,_,h3,h4,_⟩:=Gl h.2;have:=SG h1 h3;unfold KJ;rw[h4];have:Ak.length=6:=rfl;simp only[List.length_append,List.length_cons,List.length_nil];omega
theorem Xy {p:Prg} (h:BH p=true) {n:Nat} (hn:n<=4000) (hc:sumW List.length p.lines<=n/\p.vols.length<=n/\p.locks.length<=n/\sumW (fun t:Thr=>t.regs.length) p.threads<=n/\p.recs.length<=1/\(∀t∈p.recs,t.regs.length<=n)/\p.claims.length<=n):(BQ p).length<=900000000:=by
 unfold BH at h;simp only[Bool.and_eq_true,decide_eq_true_eq]at h;obtain⟨⟨⟨⟨⟨⟨h1,h2⟩,h3⟩,h4⟩,h5⟩,h6⟩,_⟩:=h;obtain⟨c1,c2,c3,c4,c5,c6,c7⟩:=hc;have t1:=KX (wt:=List.length) (f:=rowT DG) (c:=42) p.lines (fun l hl=>by
  have:=List.all_eq_true.1 h1 l hl;unfold EJ at this;simp only[Bool.and_eq_true]at this;exact Nz (by decide) (m:=BW) (by decide) this.2)
 have t2:=L0 (wd:=F7) (by decide) (m:=BW) (by decide) h3;have t3:=L0 (wd:=Cf) (by decide) (m:=0) (by decide) h4;have t4:=KX (wt:=fun t:Thr=>t.regs.length) (f:=IG) (c:=100100) p.threads (fun t ht=>by
  have hk:=List.all_eq_true.1 h5 t ht;have hn:t.name.length<=16:=by
   unfold Bv at hk;simp only[Bool.and_eq_true]at hk;exact EH hk.1.1.1
  exact TC (by simp only[List.length_append,List.length_cons];have:BX.length=6:=rfl;omega) hk)
 have t5:(p.recs.flatMap (B8 Az)).length<=100100*(n+1):=by
  have hb:=fun t ht=>TC (hd:=Az) (by decide) (List.all_eq_true.1 h6 t ht)
  cases hr:p.recs with
  |nil=>simp
  |cons t l=>
   rw[hr]at c5 c6 hb;have hl:l=[]:=List.eq_nil_of_length_eq_zero (by simp only[List.length_cons]at c5;omega);subst hl;have h7:=hb t (by simp);have h8:=c6 t (by simp);have h9:100100*(t.regs.length+1)<=100100*(n+1):=Nat.mul_le_mul_left _ (by omega);simp only[List.flatMap_cons,List.flatMap_nil,List.append_nil];omega
 have t6:=KX (wt:=fun _:Clm=>0) (f:=KJ) (c:=900) p.claims (fun c hc=>by have:=QA1 (List.all_eq_true.1 h2 c hc);omega);have s6:∀l:List Clm,sumW (fun _:Clm=>0) l=l.length:=fun l=>by
  induction l with
  |nil=>rfl
  |cons a l ih=>simp only[sumW,ih,List.length_cons];omega
 rw[s6]at t6;have m1:42*sumW List.length p.lines<=42*n:=Nat.mul_le_mul_left _ c1;have m4:100100*sumW (fun t:Thr=>t.regs.length) p.threads<=100100*n:=Nat.mul_le_mul_left _ c4;unfold BQ;simp only[List.length_append];omega
end Go.Proofs.YthfkpalfopdmhaaGreatDoor
namespace Go.Proofs.YthfkpalfopdmhaaGreatDoor
open Go.RowKit
def QFF (l:List Cel) (w:World) (e:Ending) (w':World):Prop:=∃v,e=.returned v/\Bw w' w.heap.size v l/\Below w.heap.size w w'
theorem QA4 (w:World):Bw (w.alloc (.cells #[] 48)) w.heap.size (.slice (some ⟨w.heap.size,0,none⟩) 0 0) []:=
 ⟨rfl,.inr ⟨w.heap.size,0,#[],rfl,Nat.le_refl _,heap_alloc_new w _,by decide,by decide,rfl,rfl⟩⟩
theorem QDO (l:List Cel) (c:Cel):(l++[c]).flatMap Am=l.flatMap Am++Am c:=by simp[Am]
theorem QFG (r:Ni):#[.string (r.name.extract 0 (min (r.name.size:Int) 40).toNat),.int .i64 r.n,.int .i64 r.pl]=(Am (MS r)).toArray:=by
 simp only[Am,MS];rw[LF]
theorem QFH (w:World) (o:Obj) (b:Nat) (hb:b=w.heap.size):(w.alloc o).heap[b]?=some o:=by subst hb;exact heap_alloc_new w o
set_option maxRecDepth 100000 in
set_option maxHeartbeats 8000000 in
theorem Oi (A:Option Addr) (n c:Nat) (R:Nat->Ni) (w:World) (hA:PK w A n R):Calls Tryz.prog 33 #[.slice A n c] w (QFF (EK R (min n 8)) w):=by
 obtain⟨i0,hi,hz0,hz1,hz2⟩:=info_parts Nr;have HZ:=AA (show Tryz.prog.info? 48=some i0/\i0.zero=some (.agg #[.string ⟨#[]⟩,.int .i64 0,.int .i64 0])/\i0.size=3/\i0.bytes=32 from⟨hi,hz0,hz1,hz2⟩);have HA:=AA hA;clear hi hz0 hz1 hz2 hA;go_enter Tryz.func33,Tryz.ntmps33;go_wp2_with fail
 go_loopw [3,4] (fun v x wr=>∃k:Nat,k<=n/\k<=8/\x=.int .i64 k/\Bw wr w.heap.size v (EK R k)/\Below w.heap.size w wr) (fun _ x _=>8-(intOf x).toNat)
 case atStart=>exact⟨0,Nat.zero_le _,Nat.zero_le _,rfl,QA4 w,(Below.refl _ _).alloc (Nat.le_refl _) _⟩
 case round=>
  obtain⟨k,hkn,hk8,rfl,hown,hbel⟩:=hrel;have HO:=AA hown;have HB:=AA hbel;have hsz:=hbel.size;clear hown;by_cases hlt:k<n
  ·by_cases hl6:k<8
   ·obtain⟨b,off,hAA,hbl,y0,y1,y2⟩:=HA.out k hlt;subst hAA;have x0:=(hbel.cell (p:=⟨b,off+k*3,none⟩) hbl).trans y0;have x1:=(hbel.cell (p:=⟨b,off+k*3+1,none⟩) hbl).trans y1;have x2:=(hbel.cell (p:=⟨b,off+k*3+2,none⟩) hbl).trans y2;have HS:=AA (XT R k);have hrl:=IW R k;clear y0 y1 y2 hbel;generalize R k=r at *;generalize hG:EK R k=G at *;have hG8:G.length<=7:=by omega
    have HCO:=AA (QFG r);clear hrl hG;go_wp2_with (at_builtin;refine wpList_append_own _ rfl (.tmp 29) (.tmp 31) 23 rfl w.heap.size 48 i0 (.agg #[.string ⟨#[]⟩,.int .i64 0,.int .i64 0]) 3 32 Tryz.underlying23 HZ.out.1 HZ.out.2.1 HZ.out.2.2.1 HZ.out.2.2.2 rfl (by decide) _ G.length (G.flatMap Am) rfl ?dO ⟨wr.heap.size+1,0,none⟩ 1 1 (Am (MS r)) rfl rfl ?d1 ?d2 ?d3 ?d4 ?d5 ?_)
    case dO=>exact HO.out.on (((Below.refl _ _).alloc (Nat.le_refl _) _).alloc (by simp) _)
    case d1=>
     rw[HCO.out];exact World.news_of_block (cs:=(Am (MS r)).toArray) (QFH _ _ _ (by simp))
    case d2=>exact Ns _
    case d3=>unfold maxLen;omega
    case d4=>omega
    case d5=>simp;omega
    intro v5 w5 hown' hgrow _;have HK5:Hid (Bw w5 w.heap.size v5 (G++[MS r])):=AA (by unfold Bw;rw[QDO,List.length_append];exact hown');have HL5:Hid (Below w.heap.size w w5):=AA (((HB.out.alloc hsz _).alloc (by simp;omega) _).grown hgrow (by simp;omega) (fun k hk=>(AI HO.out k hk).1));clear hown' hgrow x0 x1 x2;go_wp2_with fail
    go_roundw;case rel=>exact⟨k+1,by omega,by omega,by go_num,by rw[HS.out];exact HK5.out,HL5.out⟩
    case measure=>simp[intOf];omega
   ·have HE:Hid (min n 8=k):=AA (by omega);clear hbel;go_wp2_with fail
    go_ret;exact⟨_,rfl,by rw[HE.out];exact HO.out,HB.out⟩
  ·have HE:Hid (min n 8=k):=AA (by omega);clear hbel;go_wp2_with fail
   go_ret;exact⟨_,rfl,by rw[HE.out];exact HO.out,HB.out⟩
end Go.Proofs.YthfkpalfopdmhaaGreatDoor
