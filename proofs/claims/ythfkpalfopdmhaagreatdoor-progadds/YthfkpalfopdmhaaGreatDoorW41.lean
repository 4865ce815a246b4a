/- Texts of the walk, packed. -/
import Derived.Test.YthfkpalfopdmhaaGreatDoorW27
import Derived.Test.YthfkpalfopdmhaaGreatDoorW16
import Derived.Test.YthfkpalfopdmhaaGreatDoorW09
import Derived.Test.YthfkpalfopdmhaaGreatDoorW13
import Derived.Test.YthfkpalfopdmhaaGreatDoorW15
import Derived.Test.YthfkpalfopdmhaaGreatDoorW03
import Derived.RangeFuncBound
import Derived.RangeFuncCalls
import Derived.RangeFuncLeaves
import Derived.Shelf.Abstract
import Derived.Shelf.RegionOpen
import Derived.WalkKit
import Derived.OwnWalkIn
import Derived.TacticsInMore
import Derived.LoopNIn
import Derived.LoopIn
import Derived.Test.YthfkpalfopdmhaaGreatDoorW38
import Derived.Test.YthfkpalfopdmhaaGreatDoorW26
import Derived.Test.YthfkpalfopdmhaaGreatDoorW29
import Derived.Deep.RegionHeld3
import Derived.Test.YthfkpalfopdmhaaGreatDoorW34
import Derived.Test.YthfkpalfopdmhaaGreatDoorW40
import Derived.Test.YthfkpalfopdmhaaGreatDoorW36
import Derived.Deep.RegionLaw
import Derived.Test.YthfkpalfopdmhaaGreatDoorW00
namespace Go.Proofs.YthfkpalfopdmhaaGreatDoor
open Go.RowKit
def FX (ts:List (List UInt8)):List UInt8:=Lib.join ts [44,32]
def F8 (wd:List UInt8) (ts:List (List UInt8)):List UInt8:=if ts.isEmpty then[]else wd++(32::(FX ts++[59,10]))
theorem MU (a b:List UInt8) (l:List (List UInt8)):FX (a::b::l)=a++([44,32]++FX (b::l)):=by
 simp[FX,Lib.join,List.intercalate,List.intersperse]
theorem Lp (a:List UInt8):FX [a]=a:=by simp[FX,Lib.join,List.intercalate]
theorem Qw:∀l,namesT l=FX l
 |[]=>rfl
 |[a]=>(Lp a).symm
 |a::b::l=>by rw[MU,<-Qw (b::l)];rfl
theorem Si:∀l:List Cel,Ly l=FX (l.map ET)
 |[]=>rfl
 |[a]=>(Lp (ET a)).symm
 |a::b::l=>by
  have:=Si (b::l);rw[List.map_cons]at this;rw[List.map_cons,List.map_cons,MU,<-this];rfl
theorem QAW {ts:List (List UInt8)} {v:Value} {w:World} {B:Nat} (h:CS w B v ts) (hl:(FX ts).length<=1000000000) (hn:ts.length<=1000000) (hp:0<ts.length):
  Calls Tryz.prog 115 #[v,.string ⟨#[44,32]⟩] w (Br (FX ts) w):=by
 obtain⟨A,c,rfl,h1,h2,h3⟩:=h.reads;obtain⟨g,hA,_,hg,_⟩:=h3 0 ts[0] (List.getElem?_eq_getElem hp);subst hA;have hm:(ts.map (fun t=>(⟨t.toArray⟩:ByteArray))).map (·.data.toList)=ts:=by
  rw[List.map_map];exact List.map_id'' (fun t=>rfl) ts
 have hk:(ts.map (fun t=>(⟨t.toArray⟩:ByteArray))).length=ts.length:=List.length_map _;have:=Tryz.strings_Join g 0 c (ts.map (fun t=>(⟨t.toArray⟩:ByteArray))) ⟨#[44,32]⟩ w (fun j x hx=>by
  rw[List.getElem?_map]at hx;obtain⟨t,ht,rfl⟩:=Option.map_eq_some_iff.1 hx;obtain⟨g2,hA2,_,_,hc⟩:=h3 j t ht;cases hA2;rw[Nat.zero_add];exact hc) hg (by rw[hk];omega) (by rw[hk];exact h1) (by rw[hm];exact Nat.le_trans hl (by decide))
 rw[hk,hm]at this;exact this
set_option maxRecDepth 100000 in
set_option maxHeartbeats 4000000 in
theorem LM (wd:List UInt8) {ts:List (List UInt8)} {v:Value} {w:World} {B:Nat} (h:CS w B v ts) (hl:(FX ts).length<=1000000000) (hn:ts.length<=1000000) (hw:wd.length<=100):
  Calls Tryz.prog 57 #[.string ⟨wd.toArray⟩,v] w (Br (F8 wd ts) w):=by
 have HO:=AA h;obtain⟨A,c,rfl,h1,h2,h3⟩:=h.reads;clear h h3;cases hts:ts with
 |nil=>
  subst hts;go_enter Tryz.func57,Tryz.ntmps57;go_wp2_with fail
  go_ret;exact BZ rfl rfl (Below.refl _ _)
 |cons a l=>
  have hp:0<ts.length:=by rw[hts];simp
  have HE:Hid (F8 wd ts=wd++[32]++FX ts++[59,10]):=AA (by rw[hts];simp[F8]);have HL:=AA hl;have HP:=AA hp;rw[<-hts];clear hts;have hne:¬((ts.length:Int)=0):=by omega
  have hcat1:¬(9223372036854775807<wd.length+1):=by omega
  have hcat2:¬(9223372036854775807<wd.length+1+(FX ts).length):=by omega
  have hcat3:¬(9223372036854775807<wd.length+1+(FX ts).length+2):=by omega
  have HC:=AA (QAW HO.out hl hn hp);generalize FX ts=J at *;clear HO HL;go_enter Tryz.func57,Tryz.ntmps57;go_wp2_with fail
  refine HC.out.mono ?_;rintro e1 w1 ⟨rfl,hb⟩;have HB1:=AA hb;clear hb;go_wp2_with fail
  go_ret;exact BZ (l':=wd++[32]++J++[59,10]) (by rw[<-CO,<-CO,<-CO];rfl) HE.out.symm HB1.out
end Go.Proofs.YthfkpalfopdmhaaGreatDoor
namespace Go.Proofs.YthfkpalfopdmhaaGreatDoor
open Go
def BS (l:List UInt8):Prop:=∀c∈l,c≠10
theorem BS.nil:BS []:=fun c h=>by cases h
theorem BS.app {a b:List UInt8} (h:BS a) (k:BS b):BS (a++b):=fun c hc=>by
 rcases List.mem_append.1 hc with hc|hc
 ·exact h c hc
 ·exact k c hc
theorem BS.cons {c:UInt8} {l:List UInt8} (h:c≠10) (k:BS l):BS (c::l):=fun d hd=>by
 rcases List.mem_cons.1 hd with rfl|hd
 ·exact h
 ·exact k d hd
theorem Oe {l:List UInt8} {p:UInt8->Bool} (hp:p 10=false) (h:l.all p=true):BS l:=fun c hc e=>by
 subst e;have:=List.all_eq_true.1 h _ hc;rw[hp]at this;cases this
theorem PT {l:List UInt8} (h:nameB l=true):BS l:=by
 unfold nameB at h;simp only[Bool.and_eq_true]at h;exact Oe (p:=wrdB) (by decide) h.1.2
theorem YX {n:Int} (h:0<=n):BS (Lib.itoa n):=by
 obtain⟨u,rfl⟩:∃u:Nat,n=u:=⟨n.toNat,by omega⟩
 rw[Lib.itoa_nonneg];exact Oe (p:=digB) (by decide) (TW u).1
theorem YY (k:Nat):BS (Ar k):=by
 by_cases h:k<16
 ·have:∀k:Fin 16,(Ar k).all (fun c=>c != 10)=true:=by decide
  exact Oe (p:=fun c=>c != 10) (by decide) (this ⟨k,h⟩)
 ·unfold Ar;rw[List.getD_eq_getElem?_getD,List.getElem?_eq_none (by show 16<=k;omega)];exact BS.nil
theorem QCU (x:Ex):∀b,JV x->BS (AU b x):=by
 induction x with
 |leaf a=>
  intro b h;have hn:CW a=true:=Ig h;have ho:BD a.op=some 0:=h.1;unfold AU;unfold CW at hn;split
  ·rename_i h1
   rw[if_pos h1]at hn;simp only[Bool.and_eq_true,decide_eq_true_eq]at hn;exact YX hn.2.1.1
  ·rename_i h1
   rw[if_neg h1]at hn;by_cases h2:a.op=2
   ·rw[if_pos h2]at hn;simp only[Bool.and_eq_true,decide_eq_true_eq]at hn;exact PT hn.2.2
   ·rw[if_neg h2]at hn;simp only[Bool.and_eq_true,decide_eq_true_eq,List.isEmpty_iff]at hn;rw[hn.2.2];exact BS.nil
 |un a x ih=>
  intro b h;exact(YY _).app (ih true (PN h))
 |bin a x y i1 i2=>
  intro b h;have k1:=i1 true (K3 h).1;have k2:=i2 true (K3 h).2;have hm:BS (AU true x++[32]++Ar a.op.toNat++[32]++AU true y):=
   ((((k1.app (BS.cons (by decide) BS.nil)).app (YY _)).app (BS.cons (by decide) BS.nil)).app k2)
  unfold AU;split
  ·exact((BS.cons (by decide) BS.nil).app hm).app (BS.cons (by decide) BS.nil)
  ·exact hm
theorem Vv (L:List Nod):BS (CL L):=by
 cases h:Bm L with
 |false=>rw[VD h];exact BS.nil
 |true=>
  obtain⟨x,rfl,h1,h2,h3,h4,h5⟩:=Gl h;rw[h4];exact QCU x false h1
theorem Qx (k:Int):BS (Jv k):=by
 unfold Jv;generalize k.toNat=j;by_cases h:j<15
 ·have:∀k:Fin 15,(CM.getD k []).all (fun c=>c != 10)=true:=by decide
  exact Oe (p:=fun c=>c != 10) (by decide) (this ⟨j,h⟩)
 ·rw[List.getD_eq_getElem?_getD,List.getElem?_eq_none (by show 15<=j;omega)];exact BS.nil
theorem Vw {b:Bool} {l:List UInt8} (h:(if b then nameB l else l.isEmpty)=true):BS l:=by
 cases b with
 |true=>exact PT h
 |false=>
  have h':l.isEmpty=true:=h;simp only[List.isEmpty_iff]at h';rw[h'];exact BS.nil
theorem QEd {s:Stm} (h:EY s=true):BS (NG s):=by
 have hk:=h;unfold EY at hk;simp only[Bool.and_eq_true,decide_eq_true_eq]at hk;obtain⟨⟨⟨⟨⟨⟨⟨⟨h1,h2⟩,h3⟩,h4⟩,h5⟩,h6⟩,h7⟩,h8⟩,h9⟩:=hk;have hr:BS s.reg:=Vw h5;have hn:BS s.name:=Vw h6;have he:=Vv s.e;have hf:=Vv s.f;have hi:BS (Lib.itoa s.n):=by
  apply YX;split at h9
  ·simp only[Bool.and_eq_true,decide_eq_true_eq]at h9;omega
  ·simp only[decide_eq_true_eq]at h9;omega
 have e3:BS [32,61,32]:=BS.cons (by decide) (BS.cons (by decide) (BS.cons (by decide) BS.nil));have e2:BS [44,32]:=BS.cons (by decide) (BS.cons (by decide) BS.nil);have b32:(32:UInt8)≠10:=by decide
 unfold NG;split
 ·exact hr.app (e3.app he)
 split
 ·exact(Qx _).app (BS.cons b32 (hr.app (e3.app hn)))
 split
 ·exact(Qx _).app (BS.cons b32 (hn.app (e3.app he)))
 split
 ·exact(Qx _).app (BS.cons b32 (hr.app (e3.app (hn.app (e2.app (he.app (e2.app hf)))))))
 split
 ·exact(Qx _).app (BS.cons b32 he)
 split
 ·exact(Qx _).app (BS.cons b32 hi)
 split
 ·exact Qx _
 ·exact(Qx _).app (BS.cons b32 hn)
def DL (r:List UInt8):List UInt8:=r++[10]
def DK (u v:List UInt8):Prop:=∃rows:List (List UInt8),(∀r∈rows,BS r)/\u=rows.flatMap DL/\v=rows.flatMap (fun r=>[32,32]++DL r)
theorem DK.nil:DK [] []:=⟨[],fun r h=>(by cases h),rfl,rfl⟩
theorem DK.app {u v u' v':List UInt8} (h:DK u v) (k:DK u' v'):DK (u++u') (v++v'):=by
 obtain⟨r1,a1,rfl,rfl⟩:=h;obtain⟨r2,a2,rfl,rfl⟩:=k;refine⟨r1++r2,fun r hr=>?_,(List.flatMap_append).symm,(List.flatMap_append).symm⟩;rcases List.mem_append.1 hr with hr|hr
 ·exact a1 r hr
 ·exact a2 r hr
theorem DK.one {r:List UInt8} (h:BS r):DK (r++[10]) (32::32::(r++[10])):=
 ⟨[r],fun q hq=>(by rw[List.mem_singleton.1 hq];exact h),by simp[DL],by simp[DL]⟩
theorem DK.tq {u v u' v':List UInt8} (h:DK u v) (e1:u'=u) (e2:v'=v):DK u' v':=by rw[e1,e2];exact h
theorem Vx (b:Bk):∀ind,BS ind->b.flat.all EY=true->DK (B7 ind b) (B7 (32::32::ind) b):=by
 induction b with
 |nil=>intro ind _ _;exact DK.nil
 |cons s b e r i1 i2 i3=>
  intro ind hi hf;simp only[Bk.flat,List.all_cons,List.all_append,Bool.and_eq_true]at hf;obtain⟨h1,h2,h3,h4⟩:=hf;have hh:=QEd h1;have b32:(32:UInt8)≠10:=by decide
  have hi2:BS (ind++[32,32]):=hi.app (BS.cons b32 (BS.cons b32 BS.nil));have j1:=i1 _ hi2 h2;have j2:=i2 _ hi2 h3;have j3:=i3 _ hi h4;simp only[B7];by_cases hb:Hq s.kind
  ·rw[if_pos hb,if_pos hb];have o1:=DK.one (hi.app (hh.app (BS.cons b32 (BS.cons (by decide) BS.nil):BS [32,123])));have o3:=DK.one (hi.app (BS.cons (by decide) BS.nil:BS [125]));by_cases he:0<e.count
   ·rw[if_pos he,if_pos he];have o2:=DK.one (hi.app (Oe (p:=fun c=>c != 10) (by decide) (by decide):BS ([125,32]++FW++[32,123])));refine(o1.app (j1.app ((o2.app j2).app (o3.app j3)))).tq ?_ ?_<;>simp
   ·rw[if_neg he,if_neg he];refine(o1.app (j1.app (o3.app j3))).tq ?_ ?_<;>simp
  ·rw[if_neg hb,if_neg hb];have o1:=DK.one (hi.app (hh.app (BS.cons (by decide) BS.nil:BS [59])));refine(o1.app j3).tq ?_ ?_<;>simp
theorem Vy:∀l:List (List UInt8),l.all nameB=true->BS (namesT l)
 |[],_=>BS.nil
 |[c],h=>by
  simp only[List.all_cons,Bool.and_eq_true]at h;exact PT h.1
 |c::d::l,h=>by
  rw[List.all_cons,Bool.and_eq_true]at h;exact(PT h.1).app ((BS.cons (by decide) (BS.cons (by decide) BS.nil)).app (Vy (d::l) h.2))
def QEe (l:List (List UInt8)):List UInt8:=if l.isEmpty then[]else Ip++(32::(namesT l++[59,10]))
theorem Vz {t:Thr} {b:Bool} (h:Bv b t=true):DK (QEe t.regs++showS t.body) (SQ t.regs++bodyT t.body):=by
 unfold Bv at h;simp only[Bool.and_eq_true]at h;obtain⟨⟨⟨_,_⟩,hs⟩,hr⟩:=h;refine DK.app ?_ ?_
 ·unfold QEe SQ;cases hl:t.regs with
  |nil=>exact DK.nil
  |cons c l=>
   rw[hl]at hr;have o:=DK.one ((Oe (p:=fun c=>c != 10) (by decide) (by decide):BS Ip).app (BS.cons (by decide) ((Vy _ hr).app (BS.cons (by decide) BS.nil)):BS (32::(namesT (c::l)++[59]))));refine o.tq ?_ ?_<;>simp
 ·obtain⟨k,hk,hg,_,_,_,ht⟩:=Dq hs;rw[<-hk,K0 hg.1 (by rw[hk];exact hs)];unfold bodyT;rw[hk,ht];exact Vx k [] BS.nil hg.2
end Go.Proofs.YthfkpalfopdmhaaGreatDoor
namespace Go.Proofs.YthfkpalfopdmhaaGreatDoor
open Go.RowKit Go.Shelf
attribute [local go_sem] Oper.semAt_some
def KP (s:List (List UInt8)):List UInt8:=s.flatMap DL
abbrev StL:=List (List UInt8)×List (List UInt8)
def QCV (B:Nat) (w:World):Nat:=match w.cell? ⟨B,0,none⟩with
 |some (.string u)=>u.size
 |_=>0
def AtL (B:Nat) (s:StL) (w:World):Prop:=w.heap[B]?=some (.cells #[.string ⟨(KP s.1).toArray⟩] 9 (0,0))
theorem AtL.cell {B:Nat} {s:StL} {w:World} (h:AtL B s w):w.cell? ⟨B,0,none⟩=some (.string ⟨(KP s.1).toArray⟩):=by rw[Lib.cell_of_heap h];rfl
theorem AtL.free {B:Nat} {s:StL} {w:World} (h:AtL B s w):w.frozen? ⟨B,0,none⟩=false:=Lib.frozen_of_heap h 0
theorem UK {w:World} {B T:Nat} {u v:Value} (h:w.heap[B]?=some (.cells #[u] T (0,0))):(w.setCell ⟨B,0,none⟩ v).heap[B]?=some (.cells #[v] T (0,0)):=by
 obtain⟨hlt,hk⟩:=Array.getElem?_eq_some_iff.1 h;show(w.heap.modify B _)[B]?=_;rw[Array.getElem?_eq_getElem (by rw[Array.size_modify];exact hlt),Array.getElem_modify_self,hk];rfl
def MvL (B:Nat) (s:StL) (w:World) (s':StL) (w':World):Prop:=s'.2=s.2/\AG (fun q=>q=B) w w'/\AtL B s' w'
def NxL (rows:List (List UInt8)) (s:StL) (x:List UInt8) (s':StL):Prop:=s'=(s.1,s.2++[x])/\rows=s.2++x::s.1
theorem Xf {r:List UInt8} (h:BS r) (t:List UInt8):Lib.indexByte (DL r++t) 10=r.length:=by
 induction r with
 |nil=>rfl
 |cons b r ih=>
  have hb:(b==10)=false:=by simpa using h b (List.mem_cons_self ..)
  have ih':=ih (fun c hc=>h c (List.mem_cons_of_mem _ hc));have e:DL (b::r)++t=b::(DL r++t):=rfl;rw[e,Lib.indexByte,hb,ih'];have:((r.length:Int)== -1)=false:=by simp
  rw[this];simp
theorem left_at {B:Nat} {w:World} {l:List UInt8} (h:w.cell? ⟨B,0,none⟩=some (.string ⟨l.toArray⟩)):QCV B w=l.length:=by
 unfold QCV;rw[h];simp[ByteArray.size]
theorem QCW {B:Nat} {s s' d:List (List UInt8)} {w:World} (h:AtL B (s',d) w):MvL B (s',d) w (s,d) (w.setCell ⟨B,0,none⟩ (.string ⟨(KP s).toArray⟩)).drew:=by
 refine⟨rfl,?_,?_⟩
 ·exact AG.trans (Q:=fun q=>q=B) AG.set (AG.of (AD _)) (fun _ _ h=>h) (fun _ _ h=>h)
 ·exact UK (u:=.string ⟨(KP s').toArray⟩) h
theorem QCX (r:List UInt8) (t T:List UInt8) (h:DL r++t=T):(⟨T.toArray⟩:ByteArray).extract 0 (r.length+1)=⟨(DL r).toArray⟩/\(⟨T.toArray⟩:ByteArray).extract (r.length+1) T.length=⟨t.toArray⟩:=by
 subst h;have hl:(DL r).length=r.length+1:=by simp[DL]
 constructor
 ·apply ByteArray.ext;rw[ByteArray.data_extract];rw[<-hl];simp
 ·apply ByteArray.ext;rw[ByteArray.data_extract];rw[<-hl];simp
set_option maxRecDepth 100000 in
set_option maxHeartbeats 4000000 in
theorem Xg (n:Nat) (hn:1<=n) (B:Nat) (rows:List (List UInt8)) (hr:∀r∈rows,BS r) (hl:(KP rows).length<=1000000000) (I:StL->World->Prop) (hI:∀s W,I s W->AtL B s W):
  Vu Fence.wide n Tryz.prog 167 #[.pointer (some ⟨B,0,none⟩)] (fun r:List UInt8=>#[.string ⟨(DL r).toArray⟩]) I (MvL B) (NxL rows) (rows,[]) ([],rows):=fun l J W hJI hMv hY h0=>by
 refine callsIn_of_wp Tryz.func167 rfl trivial ?_ rfl;simp only[Tryz.ntmps167,List.size_toArray,List.length_cons,List.length_nil,Nat.reduceAdd,Nat.reduceSub,Array.replicate_succ,Array.replicate_zero,List.push_toArray,List.append_toArray,List.nil_append,List.cons_append]
 gi_wp2
 gi_loopw [] (fun wr=>∃s d,rows=d++s/\J (s,d) wr) (fun wr=>QCV B wr)
 case atStart=>exact⟨rows,[],rfl,h0⟩
 case round=>
  obtain⟨s,d,hd,hj⟩:=hrel;have hc:=(hI _ _ (hJI _ _ hj)).cell;have hf:=(hI _ _ (hJI _ _ hj)).free;cases s with
  |nil=>
   have hc':wr.cell? ⟨B,0,none⟩=some (.string ⟨#[]⟩):=hc;have HJ:=AA (show J ([],rows) wr by rw[hd,List.append_nil];exact hj);clear hc hj hd
   gi_wp2
   go_end0
   exact⟨⟨_,rfl⟩,HJ.out⟩
  |cons r s=>
   have hc':wr.cell? ⟨B,0,none⟩=some (.string ⟨(DL r++KP s).toArray⟩):=hc;have hix:=Xf (hr r (by rw[hd];simp)) (KP s);have hlen:(DL r++KP s).length<=1000000000:=by
    refine Nat.le_trans ?_ hl;rw[hd];simp only[KP,List.flatMap_append,List.flatMap_cons,List.length_append];omega
   have hll:(DL r).length=r.length+1:=by simp[DL]
   have HIX:=AA hix;have HLL:=AA hll;have HLEN:=AA hlen;have HD:=AA hd;have HJ:=AA hj;obtain⟨T,hT⟩:∃T,DL r++KP s=T:=⟨_,rfl⟩
   rw[hT]at hc' hix hlen;have hpos:0<T.length:=by rw[<-hT,List.length_append,hll];omega
   have hin:r.length+1<=T.length:=by rw[<-hT,List.length_append,hll];omega
   have hst:(⟨T.toArray⟩:ByteArray).size=T.length:=by simp[ByteArray.size]
   have hwr:IntKind.i64.wrap ((r.length:Int)+1)=(r.length:Int)+1:=IntWalk.i64_in _ (by omega);have hge:(0:Int)<=(r.length:Int):=by omega
   have hge1:(0:Int)<=(r.length:Int)+1:=by omega
   have hto:((r.length:Int)+1).toNat=r.length+1:=by omega
   clear hc hd hj hl hll
   gi_wp2_with (refine⟨trivial,?_⟩;gi_at_call 168;refine(callsIn_wide.2 (Tryz.strings_IndexByte _ _ _)).mono ?_;rintro e w1 ⟨rfl,rfl⟩)
   obtain⟨hx1,hx2⟩:=QCX r (KP s) T hT;have hmx:Tryz.prog.follows .mixedOrders=true:=by kernel_rfl
   gi_region_with_o (fail)
   all_goals
    have HJ2:=AA (hMv _ _ _ _ HJ.out (QCW (hI _ _ (hJI _ _ HJ.out)) (s:=s)));generalize(w1.setCell ⟨B,0,none⟩ (.string ⟨(KP s).toArray⟩)).drew=w2 at *;obtain⟨fn,tmps,assign,body,hy,hR⟩:=hY (s,d) r (s,d++[r]) w2 HJ2.out ⟨rfl,HD.out⟩;have HJI:=AA hJI;have HI:=AA hI;have HLF:=AA (left_at hc');clear hJI hI hMv hc' hf hY
    gi_wp2
    refine hR.mono ?_;rintro e W3 ⟨rfl,hJ3⟩;have HJ3:=AA hJ3;clear hJ3
    gi_wp2
    go_roundw;case rel=>exact⟨s,d++[r],by rw[HD.out];simp,HJ3.out⟩
    case measure=>
     rw[HLF.out,left_at (HI.out _ _ (HJI.out _ _ HJ3.out)).cell,<-hT];simp[DL];omega
set_option maxRecDepth 100000 in
set_option maxHeartbeats 4000000 in
theorem lines_any (u:ByteArray) (w:World):Calls Tryz.prog 117 #[.string u] w (fun e w'=>e=.returned (.func (.func 167) #[] #[.pointer (some ⟨w.heap.size,0,none⟩)])/\w'=w.alloc (.cells #[.string u] 9)):=by
 go_enter Tryz.func117,Tryz.ntmps117;go_wp2_with fail
 go_ret;exact⟨rfl,rfl⟩
end Go.Proofs.YthfkpalfopdmhaaGreatDoor
namespace Go.Proofs.YthfkpalfopdmhaaGreatDoor
open Go.RowKit Go.Shelf
attribute [local go_sem] Oper.semAt_some
theorem DK.len {u v:List UInt8} (h:DK u v):v.length<=3*u.length:=by
 obtain⟨rows,_,rfl,rfl⟩:=h
 induction rows with
 |nil=>simp
 |cons r l ih=>
  have ih':=ih (fun x hx=>by rename_i hh;exact hh x (List.mem_cons_of_mem _ hx));simp only[List.flatMap_cons,List.length_append,DL,List.length_cons,List.length_nil]at ih'⊢;omega
theorem QCY {B b L:Nat} {bs:List Value} {w w':World} {cs:Array Value} {T:TypeId} (h:Lib.IsBuilder 93 5 B b bs w) (hk:AG (fun q=>q=L) w w') (hL:w.heap[L]?=some (.cells cs T (0,0))) (h1:T≠93) (h2:T≠5):Lib.IsBuilder 93 5 B b bs w':=by
 have key:∀p,Lib.BuilderAt 93 5 B b p bs w->Lib.BuilderAt 93 5 B b p bs w':=by
  rintro p ⟨k1,v,k2,k3,k4⟩;have hlt:b<w.heap.size:=(Array.getElem?_eq_some_iff.1 k2).1;have hbL:b≠L:=fun e=>by subst e;rw[hL]at k2;simp at k2;exact h1 k2.2
  refine⟨k1,v,by rw[hk.block b hlt hbL];exact k2,AO k3 hk (fun q hq e=>?_),k4⟩;subst e;obtain⟨_,cs',hh⟩:=AI k3 q hq;rw[hL]at hh;simp at hh;exact h2 hh.2
 rcases h with h|h
 ·exact .inl (key _ h)
 ·exact .inr (key _ h)
def ID (d:List (List UInt8)):List UInt8:=[32,123,10]++d.flatMap (fun r=>[32,32]++DL r)
structure JK (w:World) (L:Nat) (s:StL) (W:World):Prop where
 at':AtL L s W
 bld:Lib.IsBuilder 93 5 (w.heap.size+1) (w.heap.size+1) (Lib.byteCells (ID s.2)) W
 low:Below w.heap.size w W
theorem JK.put {w:World} {L:Nat} {s:StL} {W:World} (h:JK w L s W) {k:Nat} {o:Obj} (o':Obj) (hw:w.heap.size<=k) (hk:W.heap[k]?=some o) (ho:o.isCells=false):JK w L s (W.putObj k o'):=by
 have key:∀(q:Nat) (o2:Obj),W.heap[q]?=some o2->o2.isCells=true->(W.putObj k o').heap[q]?=some o2:=fun q o2 h2 hc=>by
  refine(World.putObj_heap_other (fun e=>?_)).trans h2;subst e;rw[hk]at h2;cases h2;rw[ho]at hc;cases hc
 have kb:∀p,Lib.BuilderAt 93 5 (w.heap.size+1) (w.heap.size+1) p (Lib.byteCells (ID s.2)) W->Lib.BuilderAt 93 5 (w.heap.size+1) (w.heap.size+1) p (Lib.byteCells (ID s.2)) (W.putObj k o'):=by
  rintro p ⟨h1,v,h2,⟨h3,h4⟩,h5⟩;refine⟨h1,v,key _ _ h2 rfl,⟨h3,?_⟩,h5⟩;rcases h4 with h|⟨g,cap,cur,q1,q2,q3,q4⟩
  ·exact .inl h
  ·exact .inr ⟨g,cap,cur,q1,q2,key _ _ q3 rfl,q4⟩
 refine⟨key _ _ h.at' rfl,?_,h.low.grown (grownBy_putObj' W k o') h.low.size (fun q e=>by cases e;exact hw)⟩;rcases h.bld with h|h
 ·exact .inl (kb _ h)
 ·exact .inr (kb _ h)
theorem JK.move {w:World} {L:Nat} {s s':StL} {W W':World} (h:JK w L s W) (hL:w.heap.size<=L) (hm:MvL L s W s' W'):JK w L s' W':=by
 obtain⟨h1,h2,h3⟩:=hm;refine⟨h3,?_,h.low.trans (h2.below (fun k hk e=>by omega) h.low.size)⟩;rw[h1];exact QCY h.bld h2 h.at' (by decide) (by decide)
theorem V0 {b:Nat} {W W':World} (h:Lib.OthersKept 5 (some b) W W') {c:Array Value} {T:TypeId} {fz:Nat×Nat} (hb:W.heap[b]?=some (.cells c T fz)) (hs:W.heap.size<=W'.heap.size):KeepsOthers W W':=
 ⟨hs,fun k o hk ho=>h k o hk (fun e=>by cases e;rw[hb]at hk;cases hk;cases ho) (fun c fz e=>by subst e;cases ho)⟩
theorem IZ {B b:Nat} {bs:List Value} {w:World} (h:Lib.IsBuilder 93 5 B b bs w):∃c,w.heap[b]?=some (.cells c 93 (0,0)):=by
 rcases h with⟨_,v,h,_⟩|⟨_,v,h,_⟩<;>exact⟨_,h⟩
theorem QAY (d:List (List UInt8)) (x:List UInt8):ID (d++[x])=ID d++([32,32]++DL x):=by
 simp[ID]
theorem JK.next {w:World} {L n:Nat} {rows:List (List UInt8)} {s s':StL} {x:List UInt8} {W W':World} {e:Ending} (h:JK w L s W) (hL:w.heap.size+1<L) (hx:NxL rows s x s')
  (hw:T8 (w.heap.size+1) (w.heap.size+1) n (ID s.2++([32,32]++DL x)) W e W'):KeepsOthers W W'/\JK w L s' W':=by
 obtain⟨rfl,hr⟩:=hx;obtain⟨_,h1,h2,h3⟩:=hw;obtain⟨c,hb⟩:=IZ h.bld;refine⟨V0 h3 hb h2.size,?_,?_,h.low.trans (h2.mono (by omega))⟩
 ·exact h3 _ _ h.at' (fun e=>by cases e;omega) (fun c fz e=>by cases e)
 ·show Lib.IsBuilder 93 5 _ _ (Lib.byteCells (ID (s.2++[x]))) W';rw[QAY];exact h1
set_option maxRecDepth 100000 in
set_option maxHeartbeats 8000000 in
theorem Qy {x:Tv} {w:World} {B:Nat} {b:Bool} (hR:CS w B x.vR x.t.regs) (hB:Ec w B x.vB x.t.body) (hok:Bv b x.t=true) (hT:Tabs w) (hn:x.t.regs.length<=1000000) (hj:(FX x.t.regs).length<=1000000):
  Calls Tryz.prog 59 #[.agg #[.string ⟨x.t.name.toArray⟩,x.vR,x.vB,.int .i64 x.t.pl]] w (Br (B8 [] x.t) w):=by
 obtain⟨⟨name,regs,body,pl⟩,vR,vB⟩:=x;simp only at *;obtain⟨rows,hnl,hU,hV⟩:=Vz hok;have hs:CP body=true:=by
  unfold Bv at hok;simp only[Bool.and_eq_true]at hok;exact hok.1.2
 have hsm:=Np hs;have hU1:F8 Ip regs=QEe regs:=by unfold F8 QEe;rw[Qw]
 have hU2:F8 Ip regs++showS body=KP rows:=by rw[hU1];exact hU
 have hl1:(F8 Ip regs).length<=1000010:=by
  unfold F8;split
  ·simp
  ·simp only[List.length_append,List.length_cons,List.length_nil];have:Ip.length=3:=rfl;omega
 have hl2:(showS body).length<=1000000:=by
  obtain⟨k,hk,hg,hc,_,_,_⟩:=Dq hs;rw[<-hk,K0 hg.1 (by rw[hk];exact hs)];exact LC hg hc (by simp)
 have hlU:(KP rows).length<=2000010:=by rw[<-hU2,List.length_append];omega
 have hlV:=DK.len ⟨rows,hnl,hU,hV⟩;rw[hU]at hlV;have hlV2:(rows.flatMap (fun r=>[32,32]++DL r)).length<=6000030:=by rw[<-hV];unfold KP at hlU;omega
 have HE:Hid (B8 [] ⟨name,regs,body,pl⟩=ID rows++[125,10]):=AA (by
  unfold B8 ID;rw[<-hV];simp)
 have HLV:=AA hlV2;have HLU:=AA hlU;have HNL:=AA hnl;have HU2:=AA hU2;have HSM:=AA hsm;have HT:=AA hT;have HR:=AA hR;have HS:=AA hB.read;have HN:=AA hn;have HJ:=AA hj;have hcat:¬(9223372036854775807<(F8 Ip regs).length+(showS body).length):=by omega
 obtain⟨A1,c1,rfl, -⟩:=hR.reads;obtain⟨A2,c2,rfl⟩:=hB.slice;clear hl1 hl2 hlU hlV hlV2 hU hU1 hU2 hV hnl hs hsm hok hT hB hR hn hj;have HF:=AA (Lib.fresh_isBuilder 93 5 (w.alloc (.cells #[.string ⟨name.toArray⟩,.slice A1 regs.length c1,.slice A2 body.length c2,.int .i64 pl] 41)));refine(callsIn_wide (n:=3)).1 ?_;refine callsIn_of_wp_marks Tryz.func59 rfl trivial ?_ rfl;simp only[Tryz.ntmps59,List.size_toArray,List.length_cons,List.length_nil,Nat.reduceAdd,Nat.reduceSub,Array.replicate_succ,Array.replicate_zero,List.push_toArray,List.append_toArray,List.nil_append,List.cons_append]
 gi_wp2_with (fail)
 have hz0:(w.alloc (.cells #[.string ⟨name.toArray⟩,.slice A1 regs.length c1,.slice A2 body.length c2,.int .i64 pl] 41)).heap.size=w.heap.size+1:=by simp
 rw[hz0]at HF;have N1:=AA (((Below.refl (w.heap.size+1) _).alloc (by rw[hz0];exact Nat.le_refl _) (.cells #[.pointer none,.slice none 0 0] 93)).block w.heap.size (by omega) |>.trans (heap_alloc_new w (.cells #[.string ⟨name.toArray⟩,.slice A1 regs.length c1,.slice A2 body.length c2,.int .i64 pl] 41)));have HB0:=AA (A7 w (.cells #[.string ⟨name.toArray⟩,.slice A1 regs.length c1,.slice A2 body.length c2,.int .i64 pl] 41) (.cells #[.pointer none,.slice none 0 0] 93))
 have hz2:w.heap.size+1<=((w.alloc (.cells #[.string ⟨name.toArray⟩,.slice A1 regs.length c1,.slice A2 body.length c2,.int .i64 pl] 41)).alloc (.cells #[.pointer none,.slice none 0 0] 93)).heap.size:=by simp
 generalize(w.alloc (.cells #[.string ⟨name.toArray⟩,.slice A1 regs.length c1,.slice A2 body.length c2,.int .i64 pl] 41)).alloc (.cells #[.pointer none,.slice none 0 0] 93)=X at *;refine⟨trivial,(callsIn_wide.2 (ES (w.heap.size+1) (w.heap.size+1) [] [32,123,10] _ HF.out (by simp) hz2)).mono ?_⟩;rintro e1 w1 ⟨rfl,hd,hb,ho⟩;have N2:=ho _ _ N1.out (by simp) (by intro c fz e;cases e);have HB1:=AA (HB0.out.trans (hb.mono (by omega)));have HD1:=AA hd;have x1:w1.cell? ⟨w.heap.size,1,none⟩=some (.slice A1 regs.length c1):=by rw[Lib.cell_of_heap N2];rfl
 have x2:w1.cell? ⟨w.heap.size,2,none⟩=some (.slice A2 body.length c2):=by rw[Lib.cell_of_heap N2];rfl
 have HC1:=AA (fun W' (h:Below w1.heap.size w1 W')=>LM Ip (HR.out.on (AC HB1.out h)) (Nat.le_trans HJ.out (by decide)) HN.out (by decide));have HC2:=AA (fun W' (h:Below w1.heap.size w1 W')=>Z6 _ _ W' (HS.out.on (AC HB1.out h)) HSM.out (HT.out.on (AC HB1.out h)));have hmx:Tryz.prog.follows .mixedOrders=true:=by kernel_rfl
 clear hz0 hd hb ho hz2 N1 HB0 HF;have HN2:=AA N2;have hlt:=(Array.getElem?_eq_some_iff.1 N2).1;clear N2;generalize F8 Ip regs=U1 at *;generalize showS body=U2 at *
 gi_wp2_with (fail)
 refine wpIn_mono (Q:=NoPanic _) ?_ NoPanic.imp
 gi_region_with_o (refine⟨trivial,?_⟩;first
  |(gi_at_call 57;refine(callsIn_wide.2 (HC1.out _ (by first|exact Below.refl _ _|exact AD _))).mono ?_;rintro e2 w2 ⟨rfl,hb2⟩;have y2:w2.cell? ⟨w.heap.size,2,none⟩=some (.slice A2 body.length c2):=(by rw[Lib.cell_of_heap ((hb2.block _ hlt).trans HN2.out)];rfl))
  |(gi_at_call 118;refine(callsIn_wide.2 (HC2.out _ (by first|exact hb2|exact AC (AD _) hb2|exact AC hb2 (AD _)|exact AC (AC (AD _) hb2) (AD _)))).mono ?_;rintro e3 w3 ⟨rfl,hb3⟩)
  |(gi_at_call 117;refine(callsIn_wide.2 (lines_any _ _)).mono ?_;rintro e4 w4 ⟨rfl,rfl⟩))
 all_goals
  refine NoPanic.normal ?_;have hb4:Below w1.heap.size w1 w3:=by first|exact AC hb2 hb3|exact AC (AC (AD _) hb2) hb3|exact AC hb2 (AC (AD _) hb3)|exact AC (AC (AD _) hb2) (AC (AD _) hb3)
  have HB4:=AA (AC HB1.out hb4);have HD4:=AA (ML HD1.out hb4);have hU:(⟨U1.toArray⟩++⟨U2.toArray⟩:ByteArray)=⟨(KP rows).toArray⟩:=by rw[<-HU2.out,CO]
  rw[hU];have hL:=hb4.size;clear hb2 hb3 hb4 hU x1 x2 y2 HC1 HC2 HN2 HB1 HD1 HR HS HT HSM HU2;have hsz2:=hlt
  gi_wp2_with (fail)
  have hz4:(w3.alloc (.cells #[.string ⟨(KP rows).toArray⟩] 9)).heap.size=w3.heap.size+1:=by simp
  have hL2:w.heap.size+1<w3.heap.size:=by
   obtain⟨c,hb⟩:=IZ HD4.out;exact(Array.getElem?_eq_some_iff.1 hb).1
  have HL2:=AA hL2;refine Xe rfl (by omega) (gf:=167) (lb:=#[.pointer (some ⟨w3.heap.size,0,none⟩)]) rfl trivial (enters_of Tryz.func167 (by kernel_rfl) rfl) (encs:=fun r:List UInt8=>#[.string ⟨(DL r).toArray⟩]) (fun _=>rfl) (I:=JK w w3.heap.size) (Mv:=MvL w3.heap.size) (Nx:=NxL rows) (s0:=(rows,[])) (s1:=([],rows))
   (Xg _ (by omega) _ rows HNL.out (Nat.le_trans HLU.out (by decide)) _ (fun s W h=>h.at')) (fun s W s' W' h hm=>h.move (by omega) hm) ?mvo ?hI ?h0
   (fun x=>{tmps:=#[.agg #[.string ⟨name.toArray⟩,.slice A1 regs.length c1,.slice A2 body.length c2,.int .i64 pl],.pointer (some ⟨w.heap.size,0,none⟩),.string ⟨#[]⟩,.pointer (some ⟨w.heap.size+1,0,none⟩),.string ⟨(DL x).toArray⟩,.tuple #[.int .i64 3,.nilIface],.pointer (some ⟨w.heap.size,1,none⟩),.slice A1 regs.length c1,.string ⟨U1.toArray⟩,.pointer (some ⟨w.heap.size,2,none⟩),.slice A2 body.length c2,.string ⟨U2.toArray⟩,.string ⟨(KP rows).toArray⟩,.func (.func 167) #[] #[.pointer (some ⟨w3.heap.size,0,none⟩)],.string ⟨(DL x).toArray⟩,undef,undef,undef,undef,undef],defers:=[]}) ?assign ?body ?done
  case mvo=>
   intro s W s' W' h hm k o hk ho;refine(hm.2.1.block k (Array.getElem?_eq_some_iff.1 hk).1 (fun e=>?_)).trans hk;subst e;rw[h.at']at hk;cases hk;cases ho
  case hI=>
   intro s W k o o' h hk hh ho;exact h.put o' (by omega) hh ho
  case h0=>
   intro o1 o2;have h5:=A7 (w3.alloc (.cells #[.string ⟨(KP rows).toArray⟩] 9)) o1 o2;refine⟨(h5.block _ (by rw[hz4];omega)).trans (heap_alloc_new w3 _),?_,?_⟩
   ·exact ML (ML HD4.out ((Below.refl w3.heap.size w3).alloc (Nat.le_refl _) _)) h5
   ·exact AC (AC HB4.out ((Below.refl w3.heap.size w3).alloc (Nat.le_refl _) _)) h5
  case assign=>
   intro l x W K hK
   gi_wp2
   exact hK
  case body=>
   rintro l ⟨s1,s2⟩ x s' W hi hx;have hbs:w.heap.size+1<=W.heap.size:=by
    obtain⟨c,hb⟩:=IZ hi.bld;exact Nat.le_of_lt (Array.getElem?_eq_some_iff.1 hb).1
   have hlen:(ID s2).length+([32,32]++DL x).length<=1000000000:=by
    have:=HLV.out;rw[hx.2]at this;simp only[List.flatMap_append,List.flatMap_cons,List.length_append]at this;simp only[ID,List.length_append,List.length_cons,List.length_nil]at this⊢;omega
   have hll:(DL x).length<=1000000000:=by rw[List.length_append]at hlen;omega
   have hcat:¬(9223372036854775807<2+(DL x).length):=by omega
   have HC:=AA (Jd (w.heap.size+1) (w.heap.size+1) (ID s2) ([32,32]++DL x) (w:=W) (CO [32,32] (DL x)) hi.bld hlen hbs);have HN:=AA (fun n e W' hw=>hi.next (n:=n) (e:=e) (W':=W') HL2.out hx hw);clear hi hx hbs hlen hll
   gi_wp2_with (fail)
   refine⟨trivial,(CallsIn.inRound l (callsIn_wide.2 HC.out)).mono ?_⟩;rintro e W' hw;have:=HN.out _ _ _ hw;obtain⟨rfl, -⟩:=hw
   gi_wp2_with (fail)
   exact this
  case done=>
   intro D W hD hi hK;have hD':w3.heap.size<D:=by rw[hz4]at hD;omega
   have hbs:w.heap.size+1<=W.heap.size:=by
    obtain⟨c,hb⟩:=IZ hi.bld;exact Nat.le_of_lt (Array.getElem?_eq_some_iff.1 hb).1
   have hlen:(ID rows).length+([125,10]:List UInt8).length<=1000000000:=by
    have:=HLV.out;simp only[ID,List.length_append,List.length_cons,List.length_nil]at this⊢;omega
   have HC:=AA (Jd (w.heap.size+1) (w.heap.size+1) (ID rows) [125,10] (u:=⟨#[125,10]⟩) (w:=W) rfl hi.bld hlen hbs);have HLW:=AA hi.low;have HK:=AA hK;clear hi hK hD hbs hlen
   gi_wp2_with (fail)
   refine⟨trivial,(callsIn_wide.2 HC.out).mono ?_⟩;rintro e W2 ⟨rfl,h1,h2,h3⟩;have HK2:=AA (h3 D _ HK.out (fun e=>by cases e;omega) (fun c fz e=>by cases e));have HB2:=AA (HLW.out.trans (h2.mono (by omega)));have HC2:=AA (Tryz.Builder_String_any_k (w.heap.size+1) (w.heap.size+1) _ _ (Lib.IsBuilderF.of h1) (Nat.le_trans (Nat.le_of_lt (by obtain⟨c,hb⟩:=IZ h1;exact(Array.getElem?_eq_some_iff.1 hb).1)) (Nat.le_refl _)));clear h1 h2 h3
   gi_wp2_with (fail)
   refine⟨trivial,(callsIn_wide.2 HC2.out).mono ?_⟩;rintro e W4 ⟨rfl, -,h5,h6⟩;have hK4:=h6 D _ HK2.out (fun e=>by cases e;omega) (fun c fz e=>by cases e);have HB4':=AA (HB2.out.trans (h5.mono (by omega)));clear h5 h6
   gi_wp2_with (fail)
   refine⟨by simp,.inl ⟨_,_,rfl,run_takeDeferred hK4,?_⟩⟩;refine⟨_,results_tmp rfl _ _ _,BZ rfl HE.out.symm (HB4'.out.trans (belowK_b (w:=w) (Nat.le_refl _) W4 D _ _ (by omega) hK4 rfl rfl))⟩
end Go.Proofs.YthfkpalfopdmhaaGreatDoor
namespace Go.Proofs.YthfkpalfopdmhaaGreatDoor
open Go.RowKit
set_option maxRecDepth 100000 in
set_option maxHeartbeats 8000000 in
theorem MW {K:List Cel} {v:Value} {w:World} {B:Nat} (h:Bw w B v K) (ht:Tabs w) (hl:K.length<=10000) (hs:∀c∈K,0<=c.n/\c.n<=4294967296/\c.name.length<=100000):
  Calls Tryz.prog 58 #[v] w (fun e w'=>∃u,e=.returned u/\CS w' w.heap.size u (K.map ET)/\Below w.heap.size w w'):=by
 obtain⟨i0,hi0,hz0,hz1,hz2⟩:=info_parts PU;have HZ:=AA (show Tryz.prog.info? 9=some i0/\i0.zero=some (.string ⟨#[]⟩)/\i0.size=1/\i0.bytes=16 from⟨hi0,hz0,hz1,hz2⟩);have HO:=AA h;have HTB:=AA ht;have HS:=AA hs;obtain⟨A,c,rfl,hc,hm1,hr1⟩:=h.reads;clear hi0 hz0 hz1 hz2 hr1 h ht hs;go_enter Tryz.func58,Tryz.ntmps58;go_wp2_with fail
 go_loopw [3,9] (fun all i wr=>∃k:Nat,k<=K.length/\i=.int .i64 k/\Below w.heap.size w wr/\CS wr w.heap.size all ((K.take k).map ET)) (fun _ i _=>K.length-(intOf i).toNat)
 case atStart=>exact⟨0,Nat.zero_le _,rfl,Below.refl _ _,Jg _ _⟩
 case round=>
  obtain⟨k,hk,rfl,hbel,hacc⟩:=hrel;have HB:=AA hbel;have HA:=AA hacc;have hsz:=hbel.size;by_cases hlt:k<K.length
  ·have ha:K[k]?=some K[k]:=List.getElem?_eq_getElem hlt;obtain⟨hn0,hn1,hn2⟩:=HS.out K[k] (List.getElem_mem hlt);generalize K[k]=a at *;have HT:Hid ((K.take (k+1)).map ET=(K.take k).map ET++[ET a]):=AA (by rw[List.take_add_one,ha,List.map_append];rfl);have HN:Hid (((K.take k).map ET).length=k):=AA (by simp;omega);obtain⟨A2,c2,hv,_,_,hr⟩:=(HO.out.on hbel).reads;obtain⟨rfl,_,rfl⟩:A=A2/\True/\c=c2:=by simpa using hv
   obtain⟨g,rfl, -,hg,x0,x1,x2⟩:=hr k a ha;obtain⟨A3,c3,rfl, -, -, -⟩:=hacc.reads;generalize(K.take k).map ET=acc at *;have HAL:=AA ((Below.refl wr.heap.size wr).alloc (Nat.le_refl _) (.cells #[.string ⟨a.name.toArray⟩,.int .i64 a.n,.int .i64 a.pl] 48));clear ha hr hv hbel hacc;have hlt':=hlt;by_cases hz:a.n=0
   ·have HE:Hid (a.name=ET a):=AA (by unfold ET;rw[if_pos hz,List.append_nil]);rw[hz]at HAL;go_upto_region 8 with(fail)
    have HB1:=AA (AC HB.out HAL.out);have HA1:=AA (AO (P:=fun _=>False) HA.out (AG.of HAL.out) (fun _ _=>id));clear HAL;generalize wr.alloc (.cells #[.string ⟨a.name.toArray⟩,.int .i64 0,.int .i64 a.pl] 48)=w1 at *;have hsz1:=HB1.out.size;have hTA:(⟨a.name.toArray⟩:ByteArray)=⟨(ET a).toArray⟩:=by rw[<-HE.out]
    rw[hTA];clear hTA;generalize ET a=ta at *;go_wp2_with (at_builtin;refine wpList_append_own _ rfl (.tmp 24) (.tmp 26) 38 rfl w.heap.size 9 i0 (.string ⟨#[]⟩) 1 16 Tryz.underlying38 HZ.out.1 HZ.out.2.1 HZ.out.2.2.1 HZ.out.2.2.2 rfl (by decide) _ acc.length (acc.map strV) rfl ?dO ⟨w1.heap.size,0,none⟩ 1 1 ([strV ta]) (by rfl) (by rfl) ?d1 ?d2 ?d3 ?d4 ?d5 ?_)
    case dO=>exact AO (P:=fun _=>False) HA1.out (AG.of ((Below.refl w1.heap.size w1).alloc (Nat.le_refl _) _)) (fun _ _=>id)
    case d1=>exact World.news_of_block (cs:=#[strV ta]) (alloc_at rfl)
    case d2=>exact PV _
    case d3=>rw[HN.out];unfold maxLen;omega
    case d4=>rw[HN.out];omega
    case d5=>simp;omega
    intro v5 w5 hown5 hgrow5 _;have HB5:Hid (Below w.heap.size w w5):=AA ((HB1.out.alloc hsz1 _).grown hgrow5 (by simp;omega) (fun q hq=>(AI HA1.out q hq).1));have HA5:Hid (CS w5 w.heap.size v5 (acc++[ta])):=AA (by
     unfold CS;rw[List.length_append];simpa using hown5)
    obtain⟨A5,n5,c5,rfl⟩:∃A n c,v5=.slice A n c:=by
     obtain⟨A,c,hv,_⟩:=AS hown5;exact⟨A,_,c,hv⟩
    clear hown5 hgrow5;go_wp2_with fail
    go_roundw;case rel=>exact⟨k+1,by omega,by go_num,HB5.out,by rw[HT.out];exact HA5.out⟩
    case measure=>simp[intOf];omega
   ·have HE:Hid (a.name++([32,61,32]++Lib.itoa a.n)=ET a):=AA (by unfold ET;rw[if_neg hz]);have hit:(Lib.itoa a.n).length<=30:=Nat.le_trans (Lib.itoa_length_le a.n (by omega) (by omega)) (by decide);have HW:=AA (OD a.n (by omega) (by omega) _ (HTB.out.on (AC HB.out HAL.out)));have hcat1:¬(9223372036854775807<3+(Lib.itoa a.n).length):=by omega
    have hcat2:¬(9223372036854775807<a.name.length+(3+(Lib.itoa a.n).length)):=by omega
    generalize Lib.itoa a.n=it at *;go_upto_region 8 with(first|(go_at_call 116;refine HW.out.mono ?_;rintro e w1 ⟨rfl,hb⟩))
    have HB1:=AA (AC (AC HB.out HAL.out) hb);have HA1:=AA (AO (P:=fun _=>False) (AO (P:=fun _=>False) HA.out (AG.of HAL.out) (fun _ _=>id)) (AG.of hb) (fun _ _=>id));clear hb HAL;have hsz1:=HB1.out.size;have hTA:(⟨a.name.toArray⟩++(⟨#[32,61,32]⟩++⟨it.toArray⟩):ByteArray)=⟨(ET a).toArray⟩:=by rw[<-HE.out,<-CO,<-CO]
    rw[hTA];clear hTA;generalize ET a=ta at *;go_wp2_with (at_builtin;refine wpList_append_own _ rfl (.tmp 24) (.tmp 26) 38 rfl w.heap.size 9 i0 (.string ⟨#[]⟩) 1 16 Tryz.underlying38 HZ.out.1 HZ.out.2.1 HZ.out.2.2.1 HZ.out.2.2.2 rfl (by decide) _ acc.length (acc.map strV) rfl ?dO ⟨w1.heap.size,0,none⟩ 1 1 ([strV ta]) (by rfl) (by rfl) ?d1 ?d2 ?d3 ?d4 ?d5 ?_)
    case dO=>exact AO (P:=fun _=>False) HA1.out (AG.of ((Below.refl w1.heap.size w1).alloc (Nat.le_refl _) _)) (fun _ _=>id)
    case d1=>exact World.news_of_block (cs:=#[strV ta]) (alloc_at rfl)
    case d2=>exact PV _
    case d3=>rw[HN.out];unfold maxLen;omega
    case d4=>rw[HN.out];omega
    case d5=>simp;omega
    intro v5 w5 hown5 hgrow5 _;have HB5:Hid (Below w.heap.size w w5):=AA ((HB1.out.alloc hsz1 _).grown hgrow5 (by simp;omega) (fun q hq=>(AI HA1.out q hq).1));have HA5:Hid (CS w5 w.heap.size v5 (acc++[ta])):=AA (by
     unfold CS;rw[List.length_append];simpa using hown5)
    obtain⟨A5,n5,c5,rfl⟩:∃A n c,v5=.slice A n c:=by
     obtain⟨A,c,hv,_⟩:=AS hown5;exact⟨A,_,c,hv⟩
    clear hown5 hgrow5;go_wp2_with fail
    go_roundw;case rel=>exact⟨k+1,by omega,by go_num,HB5.out,by rw[HT.out];exact HA5.out⟩
    case measure=>simp[intOf];omega
  ·have hkk:K.take k=K:=List.take_of_length_le (by omega);rw[hkk]at HA;clear hbel hacc;go_wp2_with fail
   go_ret;exact⟨_,rfl,HA.out,HB.out⟩
theorem QDH:(Tryz.prog.info? 23).map (fun i=>(i.zero,i.size,i.bytes))=some (some (.slice none 0 0),1,24):=by kernel_rfl
theorem Yn {wa w5:World} {B:Nat} {v v5:Value} {K:List Lv} {x:Lv} (h:Ep wa B v K) (hx:Bw wa B x.v x.l) (hg:wa.grownBy w5 v.ownBlock) (hr:w5.ownsRow B 23 1 v5 (K.length+1) (K.map (·.v)++[x.v])):Ep w5 B v5 (K++[x]):=by
 have hA:Av (fun q=>v.ownBlock=some q) wa B [48]:=fun q cs T hB hh hT hP=>by
  obtain⟨_,cs',h'⟩:=AI h.row q hP;rw[h']at hh;simp only[List.mem_singleton]at hT;subst hT;simp at hh
 have hk:AG (fun q=>v.ownBlock=some q) wa w5:=AG.grown hg;refine⟨by rw[List.length_append,List.map_append];exact hr,fun y hy=>?_⟩;rcases List.mem_append.1 hy with hy|hy
 ·exact(h.sub y hy).keepT hk hA
 ·simp at hy;subst hy;exact hx.keepT hk hA
set_option maxRecDepth 100000 in
set_option maxHeartbeats 8000000 in
theorem QGf {K:List Lv} {v:Value} {w:World} {B:Nat} (h:Ep w B v K) (hl:K.length<=10000) (hs:∀x∈K,x.l.length<=10000):
  Calls Tryz.prog 36 #[v,.func (.func 37) #[] #[]] w (fun e w'=>∃u,e=.returned u/\Iq w' w.heap.size u (K.map (fun x=>x.l.map bareCel))/\Below w.heap.size w w'):=by
 obtain⟨i0,hi0,hz0,hz1,hz2⟩:=info_parts QDH;have HZ:=AA (show Tryz.prog.info? 23=some i0/\i0.zero=some (.slice none 0 0)/\i0.size=1/\i0.bytes=24 from⟨hi0,hz0,hz1,hz2⟩);have HO:=AA h;have HS:=AA hs;obtain⟨A,c,rfl,hc,hm1,hr1⟩:=h.reads;clear hi0 hz0 hz1 hz2 hr1 h hs;go_enter Tryz.func36,Tryz.ntmps36;go_wp2_with fail
 go_loopw [5,10] (fun all i wr=>∃(k:Nat) (K':List Lv),k<=K.length/\i=.int .i64 k/\Below w.heap.size w wr/\Ep wr w.heap.size all K'/\K'.map (·.l)=(K.take k).map (fun x=>x.l.map bareCel)) (fun _ i _=>K.length-(intOf i).toNat)
 case atStart=>exact⟨0,[],Nat.zero_le _,rfl,Below.refl _ _,⟨World.ownsRow_nil _ _ _ _,fun x h=>by cases h⟩,rfl⟩
 case round=>
  obtain⟨k,acc,hk,rfl,hbel,hacc,hmap⟩:=hrel;have HB:=AA hbel;have HA:=AA hacc;have hsz:=hbel.size;by_cases hlt:k<K.length
  ·have ha:K[k]?=some K[k]:=List.getElem?_eq_getElem hlt;have hin:=List.getElem_mem hlt;generalize K[k]=a at *;have HT:Hid ((acc.map (·.l))++[a.l.map bareCel]=(K.take (k+1)).map (fun x=>x.l.map bareCel)):=AA (by rw[List.take_add_one,ha,List.map_append,hmap];rfl);have HN:Hid (acc.length=k):=AA (by have:=congrArg List.length hmap;simp at this;omega);have HC:=AA (Ue ((HO.out.on hbel).sub a hin) (HS.out a hin));obtain⟨A2,c2,hv,_,_,hr⟩:=(HO.out.on hbel).reads;obtain⟨rfl,_,rfl⟩:A=A2/\True/\c=c2:=by simpa using hv
   obtain⟨g,rfl, -,hg,x0⟩:=hr k a ha;obtain⟨A3,c3,rfl, -, -, -⟩:=hacc.reads;clear ha hr hv hbel hacc hmap hin;go_wp2_with fail
   refine HC.out.mono ?_;rintro e w1 ⟨u,rfl,hu,hb⟩;have HB1:=AA (AC HB.out hb);have HA1:=AA (HA.out.on hb);have HU1:=AA (hu.base hsz);have hsz1:=HB1.out.size;obtain⟨Au,cu,rfl, -, -, -⟩:=hu.reads;generalize(a.l.map bareCel).length=nu at *;clear hb hu;go_wp2_with (at_builtin;refine wpList_append_own _ rfl (.tmp 14) (.tmp 18) 22 rfl w.heap.size 23 i0 (.slice none 0 0) 1 24 Tryz.underlying22 HZ.out.1 HZ.out.2.1 HZ.out.2.2.1 HZ.out.2.2.2 rfl (by decide) _ acc.length (acc.map (·.v)) rfl ?dO ⟨w1.heap.size,0,none⟩ 1 1 [.slice Au nu cu] (by rfl) (by rfl) ?d1 ?d2 ?d3 ?d4 ?d5 ?_)
   case dO=>exact(HA1.out.on ((Below.refl w1.heap.size w1).alloc (Nat.le_refl _) _)).row
   case d1=>exact World.news_of_block (cs:=#[.slice Au nu cu]) (alloc_at rfl)
   case d2=>intro y hy;simp at hy;subst hy;rfl
   case d3=>rw[HN.out];unfold maxLen;omega
   case d4=>rw[HN.out];omega
   case d5=>simp;omega
   intro v5 w5 hown5 hgrow5 _;have HB5:Hid (Below w.heap.size w w5):=AA ((HB1.out.alloc hsz1 _).grown hgrow5 (by simp;omega) (fun q hq=>(AI HA1.out.row q hq).1));have HA5:Hid (Ep w5 w.heap.size v5 (acc++[⟨a.l.map bareCel,.slice Au nu cu⟩])):=AA (Yn (x:=⟨a.l.map bareCel,.slice Au nu cu⟩) (HA1.out.on ((Below.refl w1.heap.size w1).alloc (Nat.le_refl _) _)) (HU1.out.on ((Below.refl w1.heap.size w1).alloc (Nat.le_refl _) _)) hgrow5 hown5);obtain⟨A5,n5,c5,rfl⟩:∃A n c,v5=.slice A n c:=by
    obtain⟨A,c,hv,_⟩:=AS hown5;exact⟨A,_,c,hv⟩
   clear hown5 hgrow5;go_wp2_with fail
   go_roundw;case rel=>exact⟨k+1,_,by omega,by go_num,HB5.out,HA5.out,by rw[<-HT.out,List.map_append];rfl⟩
   case measure=>simp[intOf];omega
  ·have hkk:K.take k=K:=List.take_of_length_le (by omega);rw[hkk]at hmap;have HM:=AA hmap;clear hbel hacc hmap hkk;go_wp2_with fail
   go_ret;exact⟨_,rfl,⟨acc,HA.out,HM.out⟩,HB.out⟩
theorem QFC {K:List (List Cel)} {v:Value} {w:World} {B:Nat} (h:Iq w B v K) (hl:K.length<=10000) (hs:∀x∈K,x.length<=10000):
  Calls Tryz.prog 36 #[v,.func (.func 37) #[] #[]] w (fun e w'=>∃u,e=.returned u/\Iq w' w.heap.size u (K.map (·.map bareCel))/\Below w.heap.size w w'):=by
 obtain⟨K',hK,rfl⟩:=h;have:=QGf hK (by rw[List.length_map]at hl;exact hl) (fun x hx=>hs _ (List.mem_map_of_mem hx));rw[List.map_map];exact this
theorem QDI:(Tryz.prog.info? 50).map (fun i=>(i.zero,i.size,i.bytes))=some (some (.agg #[.slice none 0 0,.int .i64 0]),2,32):=by kernel_rfl
theorem Yo {wa w5:World} {B:Nat} {v v5:Value} {K:List Cv} {x:Cv} (h:Dy wa B v K) (hx:B0 B wa x.vE x.c.e) (hg:wa.grownBy w5 v.ownBlock) (hr:w5.ownsRow B 50 2 v5 (K.length+1) (K.flatMap Ed++Ed x)):Dy w5 B v5 (K++[x]):=by
 have hA:Av (fun q=>v.ownBlock=some q) wa B [46]:=fun q cs T hB hh hT hP=>by
  obtain⟨_,cs',h'⟩:=AI h.row q hP;rw[h']at hh;simp only[List.mem_singleton]at hT;subst hT;simp at hh
 have hk:AG (fun q=>v.ownBlock=some q) wa w5:=AG.grown hg;refine⟨by rw[List.length_append,List.flatMap_append];simpa using hr,fun y hy=>?_⟩;rcases List.mem_append.1 hy with hy|hy
 ·exact(h.sub y hy).keepT hk hA
 ·simp at hy;subst hy;exact hx.keepT hk hA
set_option maxRecDepth 100000 in
set_option maxHeartbeats 4000000 in
theorem QFD (c:Clm) {vE:Value} {w:World} (hE:Ax w vE c.e) (hl:c.e.length<=10000):
  Calls Tryz.prog 41 #[.agg #[vE,.int .i64 c.pl]] w (fun e w'=>∃u,e=.returned (.agg #[u,.int .i64 0])/\Bn w' w.heap.size u (c.e.map bareN)/\Below w.heap.size w w'):=by
 have HC:=AA (Ud (hE.on (A7 w (.cells #[vE,.int .i64 c.pl] 50) (.cells #[.slice none 0 0,.int .i64 0] 50))) hl);obtain⟨A,n,rfl, -⟩:=hE;go_enter Tryz.func41,Tryz.ntmps41;go_wp2_with fail
 refine HC.out.mono ?_;rintro e w1 ⟨u,rfl,ho,hb⟩;have hx:w1.heap[w.heap.size+1]?=some (.cells #[.slice none 0 0,.int .i64 0] 50 (0,0)):=by
  rw[hb.block _ (by simp)];exact heap_alloc2_new w _ _
 have HO:=AA (ho.base (B':=w.heap.size) (by simp;omega));have HB:=AA (AC (A7 w _ _) hb);have y0:w1.cell? ⟨w.heap.size+1,0,none⟩=some (.slice none 0 0):=by rw[Lib.cell_of_heap hx];rfl
 have y1:w1.cell? ⟨w.heap.size+1,1,none⟩=some (.int .i64 0):=by rw[Lib.cell_of_heap hx];rfl
 have z0:=Lib.frozen_of_heap hx 0;have z1:=Lib.frozen_of_heap hx 1;have hlt:=(Array.getElem?_eq_some_iff.1 hx).1;have hfar:Hid (∀q,u.ownBlock=some q->q≠w.heap.size+1):=AA (fun q hq=>by have:=(AI ho q hq).1;simp at this;omega);obtain⟨Au,cu,rfl, -, -, -⟩:=AS ho;generalize(c.e.map bareN).length=nu at *;clear hb ho hx;go_wp2_with fail
 refine bodyPost_ret (v:=.agg #[.slice Au nu cu,.int .i64 0]) (by simp[results,Tryz.results41,go_sem,y0,y1]) rfl ?_;refine⟨_,rfl,?_,?_⟩
 ·refine AO (P:=fun q=>q=w.heap.size+1) HO.out ?_ (fun q hq h=>hfar.out q hq h);first|exact Ag AG.set AG.set|exact AG.set
 ·repeat(first|exact HB.out|(refine Below.setCell ?_ (by simp) _))
set_option maxRecDepth 100000 in
set_option maxHeartbeats 8000000 in
theorem QGg {K:List Cv} {v:Value} {w:World} {B:Nat} (h:Dy w B v K) (hl:K.length<=10000) (hs:∀x∈K,x.c.e.length<=10000):
  Calls Tryz.prog 40 #[v,.func (.func 41) #[] #[]] w (fun e w'=>∃u,e=.returned u/\Ir w' w.heap.size u (K.map (fun x=>EU x.c))/\Below w.heap.size w w'):=by
 obtain⟨i0,hi0,hz0,hz1,hz2⟩:=info_parts QDI;have HZ:=AA (show Tryz.prog.info? 50=some i0/\i0.zero=some (.agg #[.slice none 0 0,.int .i64 0])/\i0.size=2/\i0.bytes=32 from⟨hi0,hz0,hz1,hz2⟩);have HO:=AA h;have HS:=AA hs;obtain⟨A,c,rfl,hc,hm1,hr1⟩:=h.reads;clear hi0 hz0 hz1 hz2 hr1 h hs;go_enter Tryz.func40,Tryz.ntmps40;go_wp2_with fail
 go_loopw [5,10] (fun all i wr=>∃(k:Nat) (K':List Cv),k<=K.length/\i=.int .i64 k/\Below w.heap.size w wr/\Dy wr w.heap.size all K'/\K'.map (·.c)=(K.take k).map (fun x=>EU x.c)) (fun _ i _=>K.length-(intOf i).toNat)
 case atStart=>exact⟨0,[],Nat.zero_le _,rfl,Below.refl _ _,⟨World.ownsRow_nil _ _ _ _,fun x h=>by cases h⟩,rfl⟩
 case round=>
  obtain⟨k,acc,hk,rfl,hbel,hacc,hmap⟩:=hrel;have HB:=AA hbel;have HA:=AA hacc;have hsz:=hbel.size;by_cases hlt:k<K.length
  ·have ha:K[k]?=some K[k]:=List.getElem?_eq_getElem hlt;have hin:=List.getElem_mem hlt;generalize K[k]=a at *;have HT:Hid ((acc.map (·.c))++[EU a.c]=(K.take (k+1)).map (fun x=>EU x.c)):=AA (by rw[List.take_add_one,ha,List.map_append,hmap];rfl);have HN:Hid (acc.length=k):=AA (by have:=congrArg List.length hmap;simp at this;omega);have HC:=AA (QFD a.c (w:=wr.alloc (.cells #[a.vE,.int .i64 a.c.pl] 50)) (((HO.out.on hbel).sub a hin).rd.on ((Below.refl wr.heap.size wr).alloc (Nat.le_refl _) _)) (HS.out a hin));obtain⟨A2,c2,hv,_,_,hr⟩:=(HO.out.on hbel).reads
   obtain⟨rfl,_,rfl⟩:A=A2/\True/\c=c2:=by simpa using hv
   obtain⟨g,rfl, -,hg,x0,x1⟩:=hr k a ha;obtain⟨AE,cE,eE, -, -, -⟩:=((HO.out.on hbel).sub a hin).rd;simp only[eE]at x0 HC;obtain⟨A3,c3,rfl, -, -, -⟩:=hacc.reads;clear ha hr hv hbel hacc hmap hin eE;go_wp2_with fail
   refine HC.out.mono ?_;rintro e w1 ⟨u,rfl,hu,hb⟩;have HB1:=AA ((HB.out.alloc hsz _).trans (hb.mono (by simp;omega)));have HA1:=AA (HA.out.on (((Below.refl wr.heap.size wr).alloc (Nat.le_refl _) _).trans (hb.mono (by simp))));have HU1:=AA (hu.readE (B':=w.heap.size) (by simp;omega));have hsz1:=HB1.out.size;obtain⟨Au,cu,rfl, -, -, -⟩:=AS hu;generalize(a.c.e.map bareN).length=nu at *;clear hb hu
   go_wp2_with (at_builtin;refine wpList_append_own _ rfl (.tmp 14) (.tmp 18) 25 rfl w.heap.size 50 i0 (.agg #[.slice none 0 0,.int .i64 0]) 2 32 Tryz.underlying25 HZ.out.1 HZ.out.2.1 HZ.out.2.2.1 HZ.out.2.2.2 rfl (by decide) _ acc.length (acc.flatMap Ed) rfl ?dO ⟨w1.heap.size,0,none⟩ 1 1 [.slice Au nu cu,.int .i64 0] (by rfl) (by rfl) ?d1 ?d2 ?d3 ?d4 ?d5 ?_)
   case dO=>exact(HA1.out.on ((Below.refl w1.heap.size w1).alloc (Nat.le_refl _) _)).row
   case d1=>exact World.news_of_block (cs:=#[.slice Au nu cu,.int .i64 0]) (alloc_at rfl)
   case d2=>intro y hy;simp at hy;rcases hy with rfl|rfl<;>rfl
   case d3=>rw[HN.out];unfold maxLen;omega
   case d4=>rw[HN.out];omega
   case d5=>simp;omega
   intro v5 w5 hown5 hgrow5 _;have HB5:Hid (Below w.heap.size w w5):=AA ((HB1.out.alloc hsz1 _).grown hgrow5 (by simp;omega) (fun q hq=>(AI HA1.out.row q hq).1));have HA5:Hid (Dy w5 w.heap.size v5 (acc++[⟨EU a.c,.slice Au nu cu⟩])):=AA (Yo (x:=⟨EU a.c,.slice Au nu cu⟩) (HA1.out.on ((Below.refl w1.heap.size w1).alloc (Nat.le_refl _) _)) (HU1.out.on ((Below.refl w1.heap.size w1).alloc (Nat.le_refl _) _)) hgrow5 hown5);obtain⟨A5,n5,c5,rfl⟩:∃A n c,v5=.slice A n c:=by
    obtain⟨A,c,hv,_⟩:=AS hown5;exact⟨A,_,c,hv⟩
   clear hown5 hgrow5;go_wp2_with fail
   go_roundw;case rel=>exact⟨k+1,_,by omega,by go_num,HB5.out,HA5.out,by rw[<-HT.out,List.map_append];rfl⟩
   case measure=>simp[intOf];omega
  ·have hkk:K.take k=K:=List.take_of_length_le (by omega);rw[hkk]at hmap;have HM:=AA hmap;clear hbel hacc hmap hkk;go_wp2_with fail
   go_ret;exact⟨_,rfl,⟨acc,HA.out,HM.out⟩,HB.out⟩
theorem QDJ {K:List Clm} {v:Value} {w:World} {B:Nat} (h:Ir w B v K) (hl:K.length<=10000) (hs:∀x∈K,x.e.length<=10000):
  Calls Tryz.prog 40 #[v,.func (.func 41) #[] #[]] w (fun e w'=>∃u,e=.returned u/\Ir w' w.heap.size u (K.map EU)/\Below w.heap.size w w'):=by
 obtain⟨K',hK,rfl⟩:=h;have:=QGg hK (by rw[List.length_map]at hl;exact hl) (fun x hx=>hs _ (List.mem_map_of_mem hx));rw[List.map_map];exact this
def QFI (l:List Thr) (w:World) (e:Ending) (w':World):Prop:=∃v,e=.returned v/\EV w' w.heap.size v l/\Below w.heap.size w w'
theorem QA5 (w:World):Ci (w.alloc (.cells #[] 41)) w.heap.size (.slice (some ⟨w.heap.size,0,none⟩) 0 0) []:=
 ⟨⟨rfl,.inr ⟨w.heap.size,0,#[],rfl,Nat.le_refl _,heap_alloc_new w _,by decide,by decide,rfl,rfl⟩⟩,fun x h=>by cases h⟩
structure QDP (wx:World) (b:Nat) (r:Jj) (j:Nat) (vR vB:Value) (wj:World):Prop where
 low:Below wx.heap.size wx wj
 bx:wx.heap.size<=b
 cs:wj.heap[b]?=some (.cells #[.string (r.name.extract 0 (min (r.name.size:Int) 40).toNat),vR,vB,.int .i64 r.pl] 41 (0,0))
 regs:CS wj wx.heap.size vR (GK r.RR j)
 body:Ec wj wx.heap.size vB (IF r.RB (min r.nB 50))
def AtT (wx:World) (b:Nat) (r:Jj) (j:Nat) (wj:World):Prop:=∃vR vB,QDP wx b r j vR vB wj
theorem QDQ (w:World):Below w.heap.size w (w.alloc (.cells #[.string ⟨#[]⟩,.slice none 0 0,.slice none 0 0,.int .i64 0] 41)).drew:=AC ((Below.refl _ _).alloc (Nat.le_refl _) _) (AD _)
theorem QGi (w:World):(w.alloc (.cells #[.string ⟨#[]⟩,.slice none 0 0,.slice none 0 0,.int .i64 0] 41)).drew.heap[w.heap.size]?=some (.cells #[.string ⟨#[]⟩,.slice none 0 0,.slice none 0 0,.int .i64 0] 41):=heap_alloc_new w _
theorem QFJ (w:World):w.heap.size<(w.alloc (.cells #[.string ⟨#[]⟩,.slice none 0 0,.slice none 0 0,.int .i64 0] 41)).drew.heap.size:=by
 have:=heap_alloc_new w (.cells #[.string ⟨#[]⟩,.slice none 0 0,.slice none 0 0,.int .i64 0] 41);exact(Array.getElem?_eq_some_iff.1 this).1
theorem TD (w:World) (B:Nat) (r:Jj):CS w B (.slice none 0 0) (GK r.RR 0):=Jg w B
theorem X1 {w:World} {b B:Nat} {cs:Array Value} {T:TypeId} {Ts:List TypeId} (h:w.heap[b]?=some (.cells cs T (0,0))) (hT:T∉Ts):Av (fun q=>q=b) w B Ts:=fun q cs' T' _ hh hT' e=>by
 subst e;rw[h]at hh;simp only[Option.some.injEq,Obj.cells.injEq]at hh;exact hT (hh.2.1▸hT')
theorem QG2 {wx w1:World} {r:Jj} {vB:Value} {B:Nat} (h:Below wx.heap.size wx w1) (hx:w1.heap[wx.heap.size]?=some (.cells #[.string ⟨#[]⟩,.slice none 0 0,.slice none 0 0,.int .i64 0] 41 (0,0))) (ho:Ec w1 B vB (IF r.RB (min r.nB 50))) (hB:wx.heap.size<=B):
  AtT wx wx.heap.size r 0 ((((w1.setCell ⟨wx.heap.size,0,none⟩ (.string (r.name.extract 0 (min (r.name.size:Int) 40).toNat))).setCell ⟨wx.heap.size,1,none⟩ (.slice none 0 0)).setCell ⟨wx.heap.size,2,none⟩ vB).setCell ⟨wx.heap.size,3,none⟩ (.int .i64 r.pl)):=by
 have hk:AG (fun q=>q=wx.heap.size) w1 ((((w1.setCell ⟨wx.heap.size,0,none⟩ (.string (r.name.extract 0 (min (r.name.size:Int) 40).toNat))).setCell ⟨wx.heap.size,1,none⟩ (.slice none 0 0)).setCell ⟨wx.heap.size,2,none⟩ vB).setCell ⟨wx.heap.size,3,none⟩ (.int .i64 r.pl)):=
  An (An (An (An (AG.refl _ _) rfl) rfl) rfl) rfl
 refine⟨.slice none 0 0,vB,⟨h.trans (hk.below (fun k hk e=>by omega) h.size),Nat.le_refl _,?_,TD _ _ r,(ho.base hB).keepT hk (X1 hx (by decide))⟩⟩;have h0:(w1.setCell ⟨wx.heap.size,0,none⟩ (.string (r.name.extract 0 (min (r.name.size:Int) 40).toNat))).heap[wx.heap.size]?=some (.cells #[.string (r.name.extract 0 (min (r.name.size:Int) 40).toNat),.slice none 0 0,.slice none 0 0,.int .i64 0] 41 (0,0)):=AY hx
 have h1:((w1.setCell ⟨wx.heap.size,0,none⟩ (.string (r.name.extract 0 (min (r.name.size:Int) 40).toNat))).setCell ⟨wx.heap.size,1,none⟩ (.slice none 0 0)).heap[wx.heap.size]?=some (.cells #[.string (r.name.extract 0 (min (r.name.size:Int) 40).toNat),.slice none 0 0,.slice none 0 0,.int .i64 0] 41 (0,0)):=AY h0
 have h2:(((w1.setCell ⟨wx.heap.size,0,none⟩ (.string (r.name.extract 0 (min (r.name.size:Int) 40).toNat))).setCell ⟨wx.heap.size,1,none⟩ (.slice none 0 0)).setCell ⟨wx.heap.size,2,none⟩ vB).heap[wx.heap.size]?=some (.cells #[.string (r.name.extract 0 (min (r.name.size:Int) 40).toNat),.slice none 0 0,vB,.int .i64 0] 41 (0,0)):=AY h1;exact AY h2
theorem QG3 {wx w1:World} {r:Jj} {vB:Value} {B:Nat} (h:Below wx.heap.size wx w1) (ho:Ec w1 B vB (IF r.RB (min r.nB 50))) (hB:wx.heap.size<=B):
  AtT wx w1.heap.size r 0 (w1.alloc (.cells #[.string (r.name.extract 0 (min (r.name.size:Int) 40).toNat),.slice none 0 0,vB,.int .i64 r.pl] 41)):=
 ⟨.slice none 0 0,vB,⟨h.alloc h.size _,h.size,heap_alloc_new _ _,TD _ _ r,(ho.base hB).keepT (AG.of (P:=fun _=>False) ((Below.refl _ _).alloc (Nat.le_refl _) _)) Av.none⟩⟩
theorem QDP.more {wx wj w5:World} {b j:Nat} {r:Jj} {vR vB v5:Value} {o:Obj} (h:QDP wx b r j vR vB wj) (hg:(wj.drew.alloc o).grownBy w5 vR.ownBlock)
  (ho:w5.ownsRow wx.heap.size 9 1 v5 (j+1) ((GK r.RR j).map strV++[.string ((r.RR j).s.extract 0 (min ((r.RR j).s.size:Int) 40).toNat)])):AtT wx b r (j+1) (w5.setCell ⟨b,1,none⟩ v5):=by
 have hB1:Below wj.heap.size wj (wj.drew.alloc o):=(AD wj).alloc (Nat.le_refl _) o;have hk1:AG (fun q=>vR.ownBlock=some q) wj w5:=Cd hB1 (AG.grown hg);have hlt:b<wj.heap.size:=(Array.getElem?_eq_some_iff.1 h.cs).1;have hty:∀q,vR.ownBlock=some q->wx.heap.size<=q/\∃cs,wj.heap[q]?=some (.cells cs 9 (0,0)):=AI h.regs;have hne:¬vR.ownBlock=some b:=fun e=>by
  obtain⟨_,cs,h5⟩:=hty b e;rw[h.cs]at h5;simp at h5
 have hx5:w5.heap[b]?=some (.cells #[.string (r.name.extract 0 (min (r.name.size:Int) 40).toNat),vR,vB,.int .i64 r.pl] 41 (0,0)):=(hk1.block b hlt hne).trans h.cs;have hks:AG (fun q=>q=b) w5 (w5.setCell ⟨b,1,none⟩ v5):=AG.set;have h5:Below wx.heap.size wx w5:=h.low.trans (hk1.below (fun q hq e=>by have:=(hty q e).1;omega) h.low.size);refine⟨v5,vB,⟨h5.trans (hks.below (fun q hq e=>by have:=h.bx;omega) h5.size),h.bx,AY hx5,?_,(h.body.keepT hk1 (fun q cs T hB hh hT e=>?_)).keepT hks (X1 hx5 (by decide))⟩⟩
 ·have e1:GK r.RR (j+1)=GK r.RR j++[IB (r.RR j).s]:=XU _ _;have e2:((GK r.RR j).map strV++[.string ((r.RR j).s.extract 0 (min ((r.RR j).s.size:Int) 40).toNat)])=(GK r.RR (j+1)).map strV:=by
   rw[e1,List.map_append];show _++[_]=_++[Value.string ⟨(IB (r.RR j).s).toArray⟩];rw[LF]
  unfold CS;rw[<-e2,OZ];refine AO ho hks (fun q hq e=>?_);obtain⟨_,cs,h6⟩:=AI ho q hq;rw[e,hx5]at h6;simp at h6
 ·obtain⟨_,cs1,h6⟩:=hty q e;rw[h6]at hh;simp only[Option.some.injEq,Obj.cells.injEq]at hh;rw[<-hh.2.1]at hT;simp at hT
theorem QG4 {s:ByteArray}:∀u∈[Value.string s],u.oneCell'=true:=by
 intro u hu;simp at hu;subst hu;rfl
theorem Md {P:Program} {c:Code} {Q:Exit->Act->World->Prop} {a:Act} {w:World} (h:∀K:Act->World->Prop,(∀a w,Q .normal a w->K a w)->c.wp P (Exit.then K Q) a w):c.wp P Q a w:=by
 have h1:=h (Q .normal) (fun _ _ h=>h);have e:Exit.then (Q .normal) Q=Q:=by funext e a w;cases e<;>rfl
 rwa [e]at h1
theorem EM {l:List Oper} {i:Nat} {o:Oper} (h:l[i]?=some o):l.toArray[i]?=some o:=by simpa using h
theorem JD {P:Program} {l:List Oper} {md:Region.Mode} {Q:Exit->Act->World->Prop} {S:World->Prop} {o:Oper} {v:Value} {fuel:Nat} {listed:Array Bool} {a:Act} {w:World} (i:Nat) (hi:l[i]?=some o)
  (hk:(Region.noSelect l.toArray&&(Region.free md l.toArray listed i&&(Region.ready md l.toArray listed).contains i))=true)
  (hQ:∀c a w,Q (.panic c) (a.put o.dst v) w->Q (.panic c) a w) (hS:S w) (hw:Region.wanted o (yielded l.toArray a.tmps)=true) (hv:∀w,S w->(execOp a.eval o).run P w=.ok (.value v) w)
  (h:wpAnyH P md l.toArray Q S fuel (listed.setIfInBounds i true) (a.put o.dst v) w):wpAnyH P md l.toArray Q S (fuel+1) listed a w:=by
 simp only[Bool.and_eq_true]at hk;exact wpAnyH_take (EM hi) hk.1 hk.2.1 hk.2.2 hQ (Or.inl ⟨hw,hv⟩) hS h
theorem RN {w w':World} (h:Below w.heap.size w w'):Below w.heap.size w w'.drew:=AC h (AD _)
set_option maxRecDepth 100000 in
set_option maxHeartbeats 4000000 in
theorem eqL {K M:List Lv} {v1 v2:Value} {w:World} {B1 B2:Nat} (q:Lv->Lv->Bool) (h1:Ep w B1 v1 K) (h2:Ep w B2 v2 M) (hl:K.length<=10000)
  (hF:∀a∈K,∀b∈M,∀w',Below w.heap.size w w'->Calls Tryz.prog 66 #[a.v,b.v] w' (AK (q a b) w')):Calls Tryz.prog 65 #[v1,v2,.func (.func 66) #[] #[]] w (AK (Ae q K M) w):=by
 have HR1:=AA h1;have HR2:=AA h2;have HF:=AA hF;obtain⟨A,c,rfl,hc,hm1,hr1⟩:=h1.reads;obtain⟨A',c',rfl,hc',hm2,hr2⟩:=h2.reads;clear hr1 hr2 hF h1 h2;by_cases hL:K.length=M.length
 ·rw[<-hL]at HR2 hc'⊢;have HL:=AA hL;have HM:=AA (show∀k,k<K.length->k<M.length by rw[hL];exact fun _ h=>h);clear hL;go_enter Tryz.func65,Tryz.ntmps65;go_wp2_with fail
  go_loopw [17] (fun i wr=>∃k:Nat,k<=K.length/\i=.int .i64 k/\Below w.heap.size w wr/\Ae q (K.take k) (M.take k)=true) (fun i _=>K.length-(intOf i).toNat)
  case atStart=>exact⟨0,Nat.zero_le _,rfl,Below.refl _ _,rfl⟩
  case round=>
   obtain⟨k,hk,rfl,hbel,hs⟩:=hrel;have HS:=AA hs;have HB:=AA hbel;have hsz:=hbel.size;clear hs;by_cases hlt:k<K.length
   ·have hkm:=HM.out k hlt;have ha:K[k]?=some K[k]:=List.getElem?_eq_getElem hlt;have hb:M[k]?=some (M[k]'hkm):=List.getElem?_eq_getElem hkm
    generalize K[k]=a at *;generalize M[k]'hkm=b at *
    have HC:=AA (fun w' (h':Below wr.heap.size wr w')=>HF.out a (List.mem_of_getElem? ha) b (List.mem_of_getElem? hb) w' (AC HB.out h'));obtain⟨A2,c2,hv,_,_,hr⟩:=(HR1.out.on hbel).reads;obtain⟨rfl,_,rfl⟩:A=A2/\True/\c=c2:=by simpa using hv
    obtain⟨A2',c2',hv',_,_,hr'⟩:=(HR2.out.on hbel).reads;obtain⟨rfl,rfl⟩:A'=A2'/\c'=c2':=by simp only[Value.slice.injEq]at hv';exact⟨hv'.1,hv'.2.2⟩
    obtain⟨g,rfl, -,hg,x0⟩:=hr k a ha;obtain⟨g',rfl, -,hg',y0⟩:=hr' k b hb;have HN:=AA (fun h=>DD (q:=q) ha hb h);have HY:=AA (Bz (q:=q) ha hb);clear ha hb hr hr' hv hv' hbel;cases e1:q a b with
    |false=>
     have HE:=AA e1;clear e1;go_wp2_with fail
     refine(HC.out _ (Below.refl _ _)).mono ?_;rw[HE.out];rintro e w1 ⟨rfl,hb⟩;have HB2:=AA (AC HB.out hb);clear hb;go_wp2_with fail
     go_ret;exact⟨AH (HN.out HE.out).symm,HB2.out⟩
    |true=>
     have HE:=AA e1;clear e1;go_wp2_with fail
     refine(HC.out _ (Below.refl _ _)).mono ?_;rw[HE.out];rintro e w1 ⟨rfl,hb⟩;have HB2:=AA (AC HB.out hb);clear hb;go_wp2_with fail
     go_roundw;case rel=>exact⟨k+1,by omega,by go_num,HB2.out,by rw[HY.out,HS.out,HE.out];rfl⟩
     case measure=>simp[intOf];omega
   ·have HQ:=AA (Cb (q:=q) (by omega) HL.out HS.out);clear hbel;go_wp2_with fail
    go_ret;exact⟨AH HQ.out.symm,HB.out⟩
 ·have HQ:=AA (CZ (q:=q) hL);have hd:((K.length:Int) != (M.length:Int))=true:=by simp;omega
  clear hL;go_enter Tryz.func65,Tryz.ntmps65;go_wp2_with fail
  go_ret;exact⟨AH HQ.out.symm,Below.refl _ _⟩
set_option maxRecDepth 100000 in
set_option maxHeartbeats 4000000 in
theorem eqT {K M:List Tv} {v1 v2:Value} {w:World} {B1 B2:Nat} (q:Tv->Tv->Bool) (h1:Ci w B1 v1 K) (h2:Ci w B2 v2 M) (hl:K.length<=10000)
  (hF:∀a∈K,∀b∈M,∀w',Below w.heap.size w w'->Calls Tryz.prog 68 #[.agg #[.string ⟨a.t.name.toArray⟩,a.vR,a.vB,.int .i64 a.t.pl],.agg #[.string ⟨b.t.name.toArray⟩,b.vR,b.vB,.int .i64 b.t.pl]] w' (AK (q a b) w')):Calls Tryz.prog 67 #[v1,v2,.func (.func 68) #[] #[]] w (AK (Ae q K M) w):=by
 have HR1:=AA h1;have HR2:=AA h2;have HF:=AA hF;obtain⟨A,c,rfl,hc,hm1,hr1⟩:=h1.reads;obtain⟨A',c',rfl,hc',hm2,hr2⟩:=h2.reads;clear hr1 hr2 hF h1 h2;by_cases hL:K.length=M.length
 ·rw[<-hL]at HR2 hc'⊢;have HL:=AA hL;have HM:=AA (show∀k,k<K.length->k<M.length by rw[hL];exact fun _ h=>h);clear hL;go_enter Tryz.func67,Tryz.ntmps67;go_wp2_with fail
  go_loopw [17] (fun i wr=>∃k:Nat,k<=K.length/\i=.int .i64 k/\Below w.heap.size w wr/\Ae q (K.take k) (M.take k)=true) (fun i _=>K.length-(intOf i).toNat)
  case atStart=>exact⟨0,Nat.zero_le _,rfl,Below.refl _ _,rfl⟩
  case round=>
   obtain⟨k,hk,rfl,hbel,hs⟩:=hrel;have HS:=AA hs;have HB:=AA hbel;have hsz:=hbel.size;clear hs;by_cases hlt:k<K.length
   ·have hkm:=HM.out k hlt;have ha:K[k]?=some K[k]:=List.getElem?_eq_getElem hlt;have hb:M[k]?=some (M[k]'hkm):=List.getElem?_eq_getElem hkm
    generalize K[k]=a at *;generalize M[k]'hkm=b at *
    have HC:=AA (fun w' (h':Below wr.heap.size wr w')=>HF.out a (List.mem_of_getElem? ha) b (List.mem_of_getElem? hb) w' (AC HB.out h'));obtain⟨A2,c2,hv,_,_,hr⟩:=(HR1.out.on hbel).reads;obtain⟨rfl,_,rfl⟩:A=A2/\True/\c=c2:=by simpa using hv
    obtain⟨A2',c2',hv',_,_,hr'⟩:=(HR2.out.on hbel).reads;obtain⟨rfl,rfl⟩:A'=A2'/\c'=c2':=by simp only[Value.slice.injEq]at hv';exact⟨hv'.1,hv'.2.2⟩
    obtain⟨g,rfl, -,hg,x0,x1,x2,x3⟩:=hr k a ha;obtain⟨g',rfl, -,hg',y0,y1,y2,y3⟩:=hr' k b hb;have HN:=AA (fun h=>DD (q:=q) ha hb h);have HY:=AA (Bz (q:=q) ha hb);obtain⟨AR,cR,eR, -, -, -⟩:=(HR1.out.sub a (List.mem_of_getElem? ha)).1.reads;obtain⟨AB,cB,eB⟩:=(HR1.out.sub a (List.mem_of_getElem? ha)).2.slice;obtain⟨BR,dR,fR, -, -, -⟩:=(HR2.out.sub b (List.mem_of_getElem? hb)).1.reads;obtain⟨BB,dB,fB⟩:=(HR2.out.sub b (List.mem_of_getElem? hb)).2.slice;simp only[eR,eB,fR,fB]at HC x1 x2 y1 y2;clear eR eB fR fB;clear ha hb hr hr' hv hv' hbel;cases e1:q a b with
    |false=>
     have HE:=AA e1;clear e1;go_wp2_with fail
     refine(HC.out _ (A7 _ _ _)).mono ?_;rw[HE.out];rintro e w1 ⟨rfl,hb⟩;have HB2:=AA (((HB.out.alloc hsz _).alloc (by simp;omega) _).trans (hb.mono (by simp;omega)));clear hb;go_wp2_with fail
     go_ret;exact⟨AH (HN.out HE.out).symm,HB2.out⟩
    |true=>
     have HE:=AA e1;clear e1;go_wp2_with fail
     refine(HC.out _ (A7 _ _ _)).mono ?_;rw[HE.out];rintro e w1 ⟨rfl,hb⟩;have HB2:=AA (((HB.out.alloc hsz _).alloc (by simp;omega) _).trans (hb.mono (by simp;omega)));clear hb;go_wp2_with fail
     go_roundw;case rel=>exact⟨k+1,by omega,by go_num,HB2.out,by rw[HY.out,HS.out,HE.out];rfl⟩
     case measure=>simp[intOf];omega
   ·have HQ:=AA (Cb (q:=q) (by omega) HL.out HS.out);clear hbel;go_wp2_with fail
    go_ret;exact⟨AH HQ.out.symm,HB.out⟩
 ·have HQ:=AA (CZ (q:=q) hL);have hd:((K.length:Int) != (M.length:Int))=true:=by simp;omega
  clear hL;go_enter Tryz.func67,Tryz.ntmps67;go_wp2_with fail
  go_ret;exact⟨AH HQ.out.symm,Below.refl _ _⟩
end Go.Proofs.YthfkpalfopdmhaaGreatDoor
