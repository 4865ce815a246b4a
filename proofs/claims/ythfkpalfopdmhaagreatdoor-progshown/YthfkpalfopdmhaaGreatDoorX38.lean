/- Texts of the walk, packed. -/
import Derived.Test.YthfkpalfopdmhaaGreatDoorX01
import Derived.Test.YthfkpalfopdmhaaGreatDoorX30
import Derived.Test.YthfkpalfopdmhaaGreatDoorX18
import Derived.Test.YthfkpalfopdmhaaGreatDoorX11
import Derived.Test.YthfkpalfopdmhaaGreatDoorX03
import Derived.Test.YthfkpalfopdmhaaGreatDoorX32
import Derived.Test.YthfkpalfopdmhaaGreatDoorX17
import Derived.Test.YthfkpalfopdmhaaGreatDoorX05
import Derived.RangeFuncBound
import Derived.RangeFuncCalls
import Derived.RangeFuncLeaves
import Derived.Shelf.Abstract
import Derived.Shelf.RegionOpen
import Derived.WalkKit
import Derived.OwnWalkIn
import Derived.TacticsInMore
import Derived.LoopNIn
import Derived.LoopIn
import Derived.Test.YthfkpalfopdmhaaGreatDoorX34
import Derived.Test.YthfkpalfopdmhaaGreatDoorX00
namespace Go.Proofs.YthfkpalfopdmhaaGreatDoor
open Go.RowKit
theorem Qb (c:UInt8) (w:World):Calls Tryz.prog 74 #[.int .u8 c.toNat] w (Lj (IF c) w):=by
 go_enter Tryz.func74,Tryz.ntmps74
 go_wp2
 all_goals
  go_ret;refine⟨AH ?_,rfl⟩;rw[Bool.eq_iff_iff];simp[IF];omega
theorem LY (c:UInt8) (w:World):Calls Tryz.prog 71 #[.int .u8 c.toNat] w (Lj (Es c) w):=by
 go_enter Tryz.func71,Tryz.ntmps71
 go_wp2
 all_goals
  go_ret;refine⟨AH ?_,rfl⟩;rw[Bool.eq_iff_iff];simp[Es];omega
set_option maxHeartbeats 1000000 in
theorem W7 (s:ByteArray) (w:World) (hs:s.size≤100000):Calls Tryz.prog 73 #[.string s,.func (.func 74) #[] #[]] w (SU (s.data.toList.takeWhile IF) w):=by
 go_enter Tryz.func73,Tryz.ntmps73;go_wp2_with fail
 go_loop [5] (fun i=>∃k:Nat,k≤s.size∧i=.int .i64 k∧(s.data.toList.take k).all IF=true) (fun i=>s.size-(intOf i).toNat)
 case atStart=>exact⟨0,Nat.zero_le _,rfl,rfl⟩
 case round=>
  obtain⟨k,hk,rfl,ha⟩:=hrel;have HA:=AA ha;clear ha;by_cases hlt:k<s.size
  ·cases hp:IF (s[k]'hlt)with
   |true=>
    have HS:=AA (O4 IF s k hlt HA.out hp);have HP:=AA hp;clear hp;go_wp2_with fail
    refine(Qb (s[k]'hlt) _).mono ?_
    rw[HP.out];rintro e w' ⟨rfl,rfl⟩;go_wp2_with fail
    go_round;case rel=>exact⟨k+1,by omega,by go_num,HS.out⟩
    case measure=>simp[intOf];omega
   |false=>
    have HS:=AA (Ln IF s k hlt HA.out hp);have HP:=AA hp;clear hp;go_wp2_with fail
    refine(Qb (s[k]'hlt) _).mono ?_
    rw[HP.out];rintro e w' ⟨rfl,rfl⟩;go_wp2_with fail
    go_ret;exact IN rfl (FM s k) HS.out
  ·have HS:=AA (Na IF s k hlt HA.out);go_wp2_with fail
   go_ret;exact IN rfl (FM s k) HS.out
set_option maxHeartbeats 1000000 in
theorem Rx (s:ByteArray) (w:World) (hs:s.size≤100000):Calls Tryz.prog 73 #[.string s,.func (.func 131) #[] #[]] w (SU (s.data.toList.takeWhile digB) w):=by
 go_enter Tryz.func73,Tryz.ntmps73;go_wp2_with fail
 go_loop [5] (fun i=>∃k:Nat,k≤s.size∧i=.int .i64 k∧(s.data.toList.take k).all digB=true) (fun i=>s.size-(intOf i).toNat)
 case atStart=>exact⟨0,Nat.zero_le _,rfl,rfl⟩
 case round=>
  obtain⟨k,hk,rfl,ha⟩:=hrel;have HA:=AA ha;clear ha;by_cases hlt:k<s.size
  ·cases hp:digB (s[k]'hlt)with
   |true=>
    have HS:=AA (O4 digB s k hlt HA.out hp);have HP:=AA hp;clear hp;go_wp2_with fail
    refine(JS (s[k]'hlt) _).mono ?_
    rw[HP.out];rintro e w' ⟨rfl,rfl⟩;go_wp2_with fail
    go_round;case rel=>exact⟨k+1,by omega,by go_num,HS.out⟩
    case measure=>simp[intOf];omega
   |false=>
    have HS:=AA (Ln digB s k hlt HA.out hp);have HP:=AA hp;clear hp;go_wp2_with fail
    refine(JS (s[k]'hlt) _).mono ?_
    rw[HP.out];rintro e w' ⟨rfl,rfl⟩;go_wp2_with fail
    go_ret;exact IN rfl (FM s k) HS.out
  ·have HS:=AA (Na digB s k hlt HA.out);go_wp2_with fail
   go_ret;exact IN rfl (FM s k) HS.out
def FY (ts:List (List UInt8)):List UInt8:=Lib.join ts [44,32]
def GF (wd:List UInt8) (ts:List (List UInt8)):List UInt8:=if ts.isEmpty then[]else wd++(32::(FY ts++[59,10]))
theorem MI (a b:List UInt8) (l:List (List UInt8)):FY (a::b::l)=a++([44,32]++FY (b::l)):=by
 simp[FY,Lib.join,List.intercalate,List.intersperse]
theorem La (a:List UInt8):FY [a]=a:=by simp[FY,Lib.join,List.intercalate]
theorem Qg:∀l,namesT l=FY l
 |[]=>rfl
 |[a]=>(La a).symm
 |a::b::l=>by rw[MI,←Qg (b::l)];rfl
theorem R9:∀l:List Cel,Jd l=FY (l.map EY)
 |[]=>rfl
 |[a]=>(La (EY a)).symm
 |a::b::l=>by
  have:=R9 (b::l);rw[List.map_cons]at this;rw[List.map_cons,List.map_cons,MI,←this];rfl
theorem Zz {ts:List (List UInt8)} {v:Value} {w:World} {B:Nat} (h:C9 w B v ts) (hl:(FY ts).length≤1000000000) (hn:ts.length≤1000000) (hp:0<ts.length):
  Calls Tryz.prog 115 #[v,.string ⟨#[44,32]⟩] w (CE (FY ts) w):=by
 obtain⟨A,c,rfl,h1,h2,h3⟩:=h.reads;obtain⟨g,hA,_,hg,_⟩:=h3 0 ts[0] (List.getElem?_eq_getElem hp);subst hA;have hm:(ts.map (fun t=>(⟨t.toArray⟩:ByteArray))).map (·.data.toList)=ts:=by
  rw[List.map_map];exact List.map_id'' (fun t=>rfl) ts
 have hk:(ts.map (fun t=>(⟨t.toArray⟩:ByteArray))).length=ts.length:=List.length_map _;have:=Tryz.strings_Join g 0 c (ts.map (fun t=>(⟨t.toArray⟩:ByteArray))) ⟨#[44,32]⟩ w (fun j x hx=>by
  rw[List.getElem?_map]at hx;obtain⟨t,ht,rfl⟩:=Option.map_eq_some_iff.1 hx;obtain⟨g2,hA2,_,_,hc⟩:=h3 j t ht;cases hA2;rw[Nat.zero_add];exact hc) hg (by rw[hk];omega) (by rw[hk];exact h1) (by rw[hm];exact Nat.le_trans hl (by decide))
 rw[hk,hm]at this;exact this
set_option maxRecDepth 100000 in
set_option maxHeartbeats 4000000 in
theorem LC (wd:List UInt8) {ts:List (List UInt8)} {v:Value} {w:World} {B:Nat} (h:C9 w B v ts) (hl:(FY ts).length≤1000000000) (hn:ts.length≤1000000) (hw:wd.length≤100):
  Calls Tryz.prog 57 #[.string ⟨wd.toArray⟩,v] w (CE (GF wd ts) w):=by
 have HO:=AA h;obtain⟨A,c,rfl,h1,h2,h3⟩:=h.reads;clear h h3;cases hts:ts with
 |nil=>
  subst hts;go_enter Tryz.func57,Tryz.ntmps57;go_wp2_with fail
  go_ret;exact Bv rfl rfl (Below.refl _ _)
 |cons a l=>
  have hp:0<ts.length:=by rw[hts];simp
  have HE:Hid (GF wd ts=wd++[32]++FY ts++[59,10]):=AA (by rw[hts];simp[GF]);have HL:=AA hl;have HP:=AA hp;rw[←hts];clear hts;have hne:¬((ts.length:Int)=0):=by omega
  have hcat1:¬(9223372036854775807<wd.length+1):=by omega
  have hcat2:¬(9223372036854775807<wd.length+1+(FY ts).length):=by omega
  have hcat3:¬(9223372036854775807<wd.length+1+(FY ts).length+2):=by omega
  have HC:=AA (Zz HO.out hl hn hp);generalize FY ts=J at *;clear HO HL;go_enter Tryz.func57,Tryz.ntmps57;go_wp2_with fail
  refine HC.out.mono ?_;rintro e1 w1 ⟨rfl,hb⟩;have HB1:=AA hb;clear hb;go_wp2_with fail
  go_ret;exact Bv (l':=wd++[32]++J++[59,10]) (by rw[←Cb,←Cb,←Cb];rfl) HE.out.symm HB1.out
end Go.Proofs.YthfkpalfopdmhaaGreatDoor
namespace Go.Proofs.YthfkpalfopdmhaaGreatDoor
open Go.RowKit Go.Shelf
attribute [local go_sem] Oper.semAt_some
def KH (s:List (List UInt8)):List UInt8:=s.flatMap DZ
abbrev StL:=List (List UInt8)×List (List UInt8)
def QB3 (B:Nat) (w:World):Nat:=match w.cell? ⟨B,0,none⟩with
 |some (.string u)=>u.size
 |_=>0
def AtL (B:Nat) (s:StL) (w:World):Prop:=w.heap[B]?=some (.cells #[.string ⟨(KH s.1).toArray⟩] 9 (0,0))
theorem AtL.cell {B:Nat} {s:StL} {w:World} (h:AtL B s w):w.cell? ⟨B,0,none⟩=some (.string ⟨(KH s.1).toArray⟩):=by rw[Lib.cell_of_heap h];rfl
theorem AtL.free {B:Nat} {s:StL} {w:World} (h:AtL B s w):w.frozen? ⟨B,0,none⟩=false:=Lib.frozen_of_heap h 0
theorem To {w:World} {B T:Nat} {u v:Value} (h:w.heap[B]?=some (.cells #[u] T (0,0))):(w.setCell ⟨B,0,none⟩ v).heap[B]?=some (.cells #[v] T (0,0)):=by
 obtain⟨hlt,hk⟩:=Array.getElem?_eq_some_iff.1 h;show(w.heap.modify B _)[B]?=_;rw[Array.getElem?_eq_getElem (by rw[Array.size_modify];exact hlt),Array.getElem_modify_self,hk];rfl
def MvL (B:Nat) (s:StL) (w:World) (s':StL) (w':World):Prop:=s'.2=s.2∧AG (fun q=>q=B) w w'∧AtL B s' w'
def NxL (rows:List (List UInt8)) (s:StL) (x:List UInt8) (s':StL):Prop:=s'=(s.1,s.2++[x])∧rows=s.2++x::s.1
theorem XI {r:List UInt8} (h:BV r) (t:List UInt8):Lib.indexByte (DZ r++t) 10=r.length:=by
 induction r with
 |nil=>rfl
 |cons b r ih=>
  have hb:(b==10)=false:=by simpa using h b (List.mem_cons_self ..)
  have ih':=ih (fun c hc=>h c (List.mem_cons_of_mem _ hc));have e:DZ (b::r)++t=b::(DZ r++t):=rfl;rw[e,Lib.indexByte,hb,ih'];have:((r.length:Int)== -1)=false:=by simp
  rw[this];simp
theorem left_at {B:Nat} {w:World} {l:List UInt8} (h:w.cell? ⟨B,0,none⟩=some (.string ⟨l.toArray⟩)):QB3 B w=l.length:=by
 unfold QB3;rw[h];simp[ByteArray.size]
theorem QB4 {B:Nat} {s s' d:List (List UInt8)} {w:World} (h:AtL B (s',d) w):MvL B (s',d) w (s,d) (w.setCell ⟨B,0,none⟩ (.string ⟨(KH s).toArray⟩)).drew:=by
 refine⟨rfl,?_,?_⟩
 ·exact AG.trans (Q:=fun q=>q=B) AG.set (AG.of (AD _)) (fun _ _ h=>h) (fun _ _ h=>h)
 ·exact To (u:=.string ⟨(KH s').toArray⟩) h
theorem QB5 (r:List UInt8) (t T:List UInt8) (h:DZ r++t=T):(⟨T.toArray⟩:ByteArray).extract 0 (r.length+1)=⟨(DZ r).toArray⟩∧(⟨T.toArray⟩:ByteArray).extract (r.length+1) T.length=⟨t.toArray⟩:=by
 subst h;have hl:(DZ r).length=r.length+1:=by simp[DZ]
 constructor
 ·apply ByteArray.ext;rw[ByteArray.data_extract];rw[←hl];simp
 ·apply ByteArray.ext;rw[ByteArray.data_extract];rw[←hl];simp
set_option maxRecDepth 100000 in
set_option maxHeartbeats 4000000 in
theorem XJ (n:Nat) (hn:1≤n) (B:Nat) (rows:List (List UInt8)) (hr:∀r∈rows,BV r) (hl:(KH rows).length≤1000000000) (I:StL→World→Prop) (hI:∀s W,I s W→AtL B s W):
  VP Fence.wide n Tryz.prog 167 #[.pointer (some ⟨B,0,none⟩)] (fun r:List UInt8=>#[.string ⟨(DZ r).toArray⟩]) I (MvL B) (NxL rows) (rows,[]) ([],rows):=fun l J W hJI hMv hY h0=>by
 refine callsIn_of_wp Tryz.func167 rfl trivial ?_ rfl;simp only[Tryz.ntmps167,List.size_toArray,List.length_cons,List.length_nil,Nat.reduceAdd,Nat.reduceSub,Array.replicate_succ,Array.replicate_zero,List.push_toArray,List.append_toArray,List.nil_append,List.cons_append]
 gi_wp2
 gi_loopw [] (fun wr=>∃s d,rows=d++s∧J (s,d) wr) (fun wr=>QB3 B wr)
 case atStart=>exact⟨rows,[],rfl,h0⟩
 case round=>
  obtain⟨s,d,hd,hj⟩:=hrel;have hc:=(hI _ _ (hJI _ _ hj)).cell;have hf:=(hI _ _ (hJI _ _ hj)).free;cases s with
  |nil=>
   have hc':wr.cell? ⟨B,0,none⟩=some (.string ⟨#[]⟩):=hc;have HJ:=AA (show J ([],rows) wr by rw[hd,List.append_nil];exact hj);clear hc hj hd
   gi_wp2
   go_end0
   exact⟨⟨_,rfl⟩,HJ.out⟩
  |cons r s=>
   have hc':wr.cell? ⟨B,0,none⟩=some (.string ⟨(DZ r++KH s).toArray⟩):=hc;have hix:=XI (hr r (by rw[hd];simp)) (KH s);have hlen:(DZ r++KH s).length≤1000000000:=by
    refine Nat.le_trans ?_ hl;rw[hd];simp only[KH,List.flatMap_append,List.flatMap_cons,List.length_append];omega
   have hll:(DZ r).length=r.length+1:=by simp[DZ]
   have HIX:=AA hix;have HLL:=AA hll;have HLEN:=AA hlen;have HD:=AA hd;have HJ:=AA hj;obtain⟨T,hT⟩:∃T,DZ r++KH s=T:=⟨_,rfl⟩
   rw[hT]at hc' hix hlen;have hpos:0<T.length:=by rw[←hT,List.length_append,hll];omega
   have hin:r.length+1≤T.length:=by rw[←hT,List.length_append,hll];omega
   have hst:(⟨T.toArray⟩:ByteArray).size=T.length:=by simp[ByteArray.size]
   have hwr:IntKind.i64.wrap ((r.length:Int)+1)=(r.length:Int)+1:=IntWalk.i64_in _ (by omega);have hge:(0:Int)≤(r.length:Int):=by omega
   have hge1:(0:Int)≤(r.length:Int)+1:=by omega
   have hto:((r.length:Int)+1).toNat=r.length+1:=by omega
   clear hc hd hj hl hll
   gi_wp2_with (refine⟨trivial,?_⟩;gi_at_call 168;refine(callsIn_wide.2 (Tryz.strings_IndexByte _ _ _)).mono ?_;rintro e w1 ⟨rfl,rfl⟩)
   obtain⟨hx1,hx2⟩:=QB5 r (KH s) T hT;have hmx:Tryz.prog.follows .mixedOrders=true:=by kernel_rfl
   gi_region_with_o (fail)
   all_goals
    have HJ2:=AA (hMv _ _ _ _ HJ.out (QB4 (hI _ _ (hJI _ _ HJ.out)) (s:=s)));generalize(w1.setCell ⟨B,0,none⟩ (.string ⟨(KH s).toArray⟩)).drew=w2 at *;obtain⟨fn,tmps,assign,body,hy,hR⟩:=hY (s,d) r (s,d++[r]) w2 HJ2.out ⟨rfl,HD.out⟩;have HJI:=AA hJI;have HI:=AA hI;have HLF:=AA (left_at hc');clear hJI hI hMv hc' hf hY
    gi_wp2
    refine hR.mono ?_;rintro e W3 ⟨rfl,hJ3⟩;have HJ3:=AA hJ3;clear hJ3
    gi_wp2
    go_roundw;case rel=>exact⟨s,d++[r],by rw[HD.out];simp,HJ3.out⟩
    case measure=>
     rw[HLF.out,left_at (HI.out _ _ (HJI.out _ _ HJ3.out)).cell,←hT];simp[DZ];omega
set_option maxRecDepth 100000 in
set_option maxHeartbeats 4000000 in
theorem lines_any (u:ByteArray) (w:World):Calls Tryz.prog 117 #[.string u] w (fun e w'=>e=.returned (.func (.func 167) #[] #[.pointer (some ⟨w.heap.size,0,none⟩)])∧w'=w.alloc (.cells #[.string u] 9)):=by
 go_enter Tryz.func117,Tryz.ntmps117;go_wp2_with fail
 go_ret;exact⟨rfl,rfl⟩
end Go.Proofs.YthfkpalfopdmhaaGreatDoor
namespace Go.Proofs.YthfkpalfopdmhaaGreatDoor
open Go.RowKit
set_option maxRecDepth 100000 in
set_option maxHeartbeats 2000000 in
theorem QFG (c:Nod) (w:World):Calls Tryz.prog 148 #[.agg #[.int .i64 c.op,.int .i64 c.n,.string ⟨c.name.toArray⟩,.int .i64 c.pl]] w (fun e w'=>e=.returned (.agg #[.int .i64 c.op,.int .i64 c.n,.string ⟨c.name.toArray⟩,.int .i64 0])∧Below w.heap.size w w'):=by
 go_enter Tryz.func148,Tryz.ntmps148;go_wp2_with fail
 refine bodyPost_ret (v:=.agg #[.int .i64 c.op,.int .i64 c.n,.string ⟨c.name.toArray⟩,.int .i64 0]) (by simp[results,Tryz.results148,go_sem]) rfl ?_;refine⟨rfl,?_⟩;repeat(first|exact Below.refl _ _|(refine Below.setCell ?_ (by simp) _)|(refine Below.alloc ?_ (by simp) _))
set_option maxRecDepth 100000 in
set_option maxHeartbeats 8000000 in
theorem QFH {K:List Nod} {v:Value} {w:World} (h:BA w v K) (hl:K.length≤10000):
  Calls Tryz.prog 147 #[v,.func (.func 148) #[] #[]] w (fun e w'=>∃u,e=.returned u∧CL w' w.heap.size u (K.map bareN)∧Below w.heap.size w w'):=by
 obtain⟨i0,hi0,hz0,hz1,hz2⟩:=info_parts info30;have HZ:=AA (show Tryz.prog.info? 46=some i0∧i0.zero=some (.agg #[.int .i64 0,.int .i64 0,.string ⟨#[]⟩,.int .i64 0])∧i0.size=4∧i0.bytes=40 from⟨hi0,hz0,hz1,hz2⟩);have HO:=AA h;obtain⟨A,c,rfl,hc,hm1,hr1⟩:=h;clear hi0 hz0 hz1 hz2 hr1;go_enter Tryz.func147,Tryz.ntmps147;go_wp2_with fail
 go_loopw [5,10] (fun all i wr=>∃k:Nat,k≤K.length∧i=.int .i64 k∧Below w.heap.size w wr∧CL wr w.heap.size all ((K.take k).map bareN)) (fun _ i _=>K.length-(intOf i).toNat)
 case atStart=>exact⟨0,Nat.zero_le _,rfl,Below.refl _ _,Ez _ _⟩
 case round=>
  obtain⟨k,hk,rfl,hbel,hacc⟩:=hrel;have HB:=AA hbel;have HA:=AA hacc;have hsz:=hbel.size;by_cases hlt:k<K.length
  ·have ha:K[k]?=some K[k]:=List.getElem?_eq_getElem hlt;generalize K[k]=a at *;have HT:Hid ((K.take (k+1)).map bareN=(K.take k).map bareN++[bareN a]):=AA (by rw[List.take_add_one,ha,List.map_append];rfl);have HN:Hid (((K.take k).map bareN).length=k):=AA (by simp;omega);obtain⟨A2,c2,hv,_,_,hr⟩:=HO.out.on hbel;obtain⟨rfl,_,rfl⟩:A=A2∧True∧c=c2:=by simpa using hv
   obtain⟨g,o,rfl,hg,x0,x1,x2,x3⟩:=hr k a ha;obtain⟨A3,c3,rfl, -, -, -⟩:=AX hacc;generalize(K.take k).map bareN=acc at *;clear ha hr hv hbel hacc;go_wp2_with fail
   refine(QFG a _).mono ?_;rintro e w1 ⟨rfl,hb⟩;have HB1:=AA ((HB.out.alloc hsz _).trans (hb.mono (by simp;omega)));have HA1:=AA (AW (P:=fun _=>False) HA.out (AG.of (((Below.refl wr.heap.size wr).alloc (Nat.le_refl _) _).trans (hb.mono (by simp)))) (fun _ _=>id));have hsz1:=HB1.out.size;have hk1:=hlt;clear hb
   go_wp2_with (at_builtin;refine wpList_append_own _ rfl (.tmp 14) (.tmp 18) 42 rfl w.heap.size 46 i0 (.agg #[.int .i64 0,.int .i64 0,.string ⟨#[]⟩,.int .i64 0]) 4 40 Tryz.underlying42 HZ.out.1 HZ.out.2.1 HZ.out.2.2.1 HZ.out.2.2.2 rfl (by decide) _ acc.length (Do acc) rfl ?dO ⟨w1.heap.size,0,none⟩ 1 1 (CQ (bareN a)) (by rfl) (by rfl) ?d1 ?d2 ?d3 ?d4 ?d5 ?_)
   case dO=>exact AW (P:=fun _=>False) HA1.out (AG.of ((Below.refl w1.heap.size w1).alloc (Nat.le_refl _) _)) (fun _ _=>id)
   case d1=>exact World.news_of_block (cs:=(CQ (bareN a)).toArray) (alloc_at rfl)
   case d2=>intro u hu;exact XW [bareN a] u (by rw[PD];exact hu)
   case d3=>rw[HN.out];unfold maxLen;omega
   case d4=>rw[HN.out];omega
   case d5=>simp;omega
   intro v5 w5 hown5 hgrow5 _;have HB5:Hid (Below w.heap.size w w5):=AA ((HB1.out.alloc hsz1 _).grown hgrow5 (by simp;omega) (fun q hq=>(AM HA1.out q hq).1));have HA5:Hid (CL w5 w.heap.size v5 (acc++[bareN a])):=AA (by
    unfold CL;rw[O9,PD,List.length_append];exact hown5)
   obtain⟨A5,n5,c5,rfl⟩:∃A n c,v5=.slice A n c:=by
    obtain⟨A,c,hv,_⟩:=AX hown5;exact⟨A,_,c,hv⟩
   clear hown5 hgrow5;go_wp2_with fail
   go_roundw;case rel=>exact⟨k+1,by omega,by go_num,HB5.out,by rw[HT.out];exact HA5.out⟩
   case measure=>simp[intOf];omega
  ·have hkk:K.take k=K:=List.take_of_length_le (by omega);rw[hkk]at HA;clear hbel hacc;go_wp2_with fail
   go_ret;exact⟨_,rfl,HA.out,HB.out⟩
set_option maxRecDepth 100000 in
set_option maxHeartbeats 2000000 in
theorem T0 {K:List Nod} {v:Value} {w:World} (h:BA w v K) (hl:K.length≤10000):
  Calls Tryz.prog 98 #[v] w (fun e w'=>∃u,e=.returned u∧CL w' w.heap.size u (K.map bareN)∧Below w.heap.size w w'):=by
 have HC:=AA (QFH h hl);clear h;go_enter Tryz.func98,Tryz.ntmps98;go_wp2_with fail
 refine HC.out.mono ?_;rintro e w1 ⟨u,rfl,ho,hb⟩;have HB:=AA hb;have HO:=AA ho;obtain⟨A,c,rfl, -, -, -⟩:=AX ho;clear hb ho;go_wp2_with fail
 go_ret;have h9:=HO.out;rw[List.length_map]at h9;exact⟨_,rfl,h9,HB.out⟩
theorem QCO:(Tryz.prog.info? 50).map (fun i=>(i.zero,i.size,i.bytes))=some (some (.agg #[.slice none 0 0,.int .i64 0]),2,32):=by kernel_rfl
theorem QEC {wa w5:World} {B:Nat} {v v5:Value} {K:List Cv} {x:Cv} (h:ER wa B v K) (hx:CY B wa x.vE x.c.e) (hg:wa.grownBy w5 v.ownBlock) (hr:w5.ownsRow B 50 2 v5 (K.length+1) (K.flatMap GY++GY x)):ER w5 B v5 (K++[x]):=by
 have hA:Av (fun q=>v.ownBlock=some q) wa B [46]:=fun q cs T hB hh hT hP=>by
  obtain⟨_,cs',h'⟩:=AM h.row q hP;rw[h']at hh;simp only[List.mem_singleton]at hT;subst hT;simp at hh
 have hk:AG (fun q=>v.ownBlock=some q) wa w5:=AG.grown hg;refine⟨by rw[List.length_append,List.flatMap_append];simpa using hr,fun y hy=>?_⟩;rcases List.mem_append.1 hy with hy|hy
 ·exact(h.sub y hy).keepT hk hA
 ·simp at hy;subst hy;exact hx.keepT hk hA
set_option maxRecDepth 100000 in
set_option maxHeartbeats 4000000 in
theorem QED (c:Clm) {vE:Value} {w:World} (hE:BA w vE c.e) (hl:c.e.length≤10000):
  Calls Tryz.prog 41 #[.agg #[vE,.int .i64 c.pl]] w (fun e w'=>∃u,e=.returned (.agg #[u,.int .i64 0])∧CL w' w.heap.size u (c.e.map bareN)∧Below w.heap.size w w'):=by
 have HC:=AA (T0 (hE.on (BC w (.cells #[vE,.int .i64 c.pl] 50) (.cells #[.slice none 0 0,.int .i64 0] 50))) hl);obtain⟨A,n,rfl, -⟩:=hE;go_enter Tryz.func41,Tryz.ntmps41;go_wp2_with fail
 refine HC.out.mono ?_;rintro e w1 ⟨u,rfl,ho,hb⟩;have hx:w1.heap[w.heap.size+1]?=some (.cells #[.slice none 0 0,.int .i64 0] 50 (0,0)):=by
  rw[hb.block _ (by simp)];exact heap_alloc2_new w _ _
 have HO:=AA (ho.base (B':=w.heap.size) (by simp;omega));have HB:=AA (AC (BC w _ _) hb);have y0:w1.cell? ⟨w.heap.size+1,0,none⟩=some (.slice none 0 0):=by rw[Lib.cell_of_heap hx];rfl
 have y1:w1.cell? ⟨w.heap.size+1,1,none⟩=some (.int .i64 0):=by rw[Lib.cell_of_heap hx];rfl
 have z0:=Lib.frozen_of_heap hx 0;have z1:=Lib.frozen_of_heap hx 1;have hlt:=(Array.getElem?_eq_some_iff.1 hx).1;have hfar:Hid (∀q,u.ownBlock=some q→q≠w.heap.size+1):=AA (fun q hq=>by have:=(AM ho q hq).1;simp at this;omega);obtain⟨Au,cu,rfl, -, -, -⟩:=AX ho;generalize(c.e.map bareN).length=nu at *;clear hb ho hx;go_wp2_with fail
 refine bodyPost_ret (v:=.agg #[.slice Au nu cu,.int .i64 0]) (by simp[results,Tryz.results41,go_sem,y0,y1]) rfl ?_;refine⟨_,rfl,?_,?_⟩
 ·refine AW (P:=fun q=>q=w.heap.size+1) HO.out ?_ (fun q hq h=>hfar.out q hq h);first|exact Ak AG.set AG.set|exact AG.set
 ·repeat(first|exact HB.out|(refine Below.setCell ?_ (by simp) _))
set_option maxRecDepth 100000 in
set_option maxHeartbeats 8000000 in
theorem QFS {K:List Cv} {v:Value} {w:World} {B:Nat} (h:ER w B v K) (hl:K.length≤10000) (hs:∀x∈K,x.c.e.length≤10000):
  Calls Tryz.prog 40 #[v,.func (.func 41) #[] #[]] w (fun e w'=>∃u,e=.returned u∧It w' w.heap.size u (K.map (fun x=>DR x.c))∧Below w.heap.size w w'):=by
 obtain⟨i0,hi0,hz0,hz1,hz2⟩:=info_parts QCO;have HZ:=AA (show Tryz.prog.info? 50=some i0∧i0.zero=some (.agg #[.slice none 0 0,.int .i64 0])∧i0.size=2∧i0.bytes=32 from⟨hi0,hz0,hz1,hz2⟩);have HO:=AA h;have HS:=AA hs;obtain⟨A,c,rfl,hc,hm1,hr1⟩:=h.reads;clear hi0 hz0 hz1 hz2 hr1 h hs;go_enter Tryz.func40,Tryz.ntmps40;go_wp2_with fail
 go_loopw [5,10] (fun all i wr=>∃(k:Nat) (K':List Cv),k≤K.length∧i=.int .i64 k∧Below w.heap.size w wr∧ER wr w.heap.size all K'∧K'.map (·.c)=(K.take k).map (fun x=>DR x.c)) (fun _ i _=>K.length-(intOf i).toNat)
 case atStart=>exact⟨0,[],Nat.zero_le _,rfl,Below.refl _ _,⟨World.ownsRow_nil _ _ _ _,fun x h=>by cases h⟩,rfl⟩
 case round=>
  obtain⟨k,acc,hk,rfl,hbel,hacc,hmap⟩:=hrel;have HB:=AA hbel;have HA:=AA hacc;have hsz:=hbel.size;by_cases hlt:k<K.length
  ·have ha:K[k]?=some K[k]:=List.getElem?_eq_getElem hlt;have hin:=List.getElem_mem hlt;generalize K[k]=a at *;have HT:Hid ((acc.map (·.c))++[DR a.c]=(K.take (k+1)).map (fun x=>DR x.c)):=AA (by rw[List.take_add_one,ha,List.map_append,hmap];rfl);have HN:Hid (acc.length=k):=AA (by have:=congrArg List.length hmap;simp at this;omega);have HC:=AA (QED a.c (w:=wr.alloc (.cells #[a.vE,.int .i64 a.c.pl] 50)) (((HO.out.on hbel).sub a hin).rd.on ((Below.refl wr.heap.size wr).alloc (Nat.le_refl _) _)) (HS.out a hin));obtain⟨A2,c2,hv,_,_,hr⟩:=(HO.out.on hbel).reads
   obtain⟨rfl,_,rfl⟩:A=A2∧True∧c=c2:=by simpa using hv
   obtain⟨g,rfl, -,hg,x0,x1⟩:=hr k a ha;obtain⟨AE,cE,eE, -, -, -⟩:=((HO.out.on hbel).sub a hin).rd;simp only[eE]at x0 HC;obtain⟨A3,c3,rfl, -, -, -⟩:=hacc.reads;clear ha hr hv hbel hacc hmap hin eE;go_wp2_with fail
   refine HC.out.mono ?_;rintro e w1 ⟨u,rfl,hu,hb⟩;have HB1:=AA ((HB.out.alloc hsz _).trans (hb.mono (by simp;omega)));have HA1:=AA (HA.out.on (((Below.refl wr.heap.size wr).alloc (Nat.le_refl _) _).trans (hb.mono (by simp))));have HU1:=AA (hu.readE (B':=w.heap.size) (by simp;omega));have hsz1:=HB1.out.size;obtain⟨Au,cu,rfl, -, -, -⟩:=AX hu;generalize(a.c.e.map bareN).length=nu at *;clear hb hu
   go_wp2_with (at_builtin;refine wpList_append_own _ rfl (.tmp 14) (.tmp 18) 25 rfl w.heap.size 50 i0 (.agg #[.slice none 0 0,.int .i64 0]) 2 32 Tryz.underlying25 HZ.out.1 HZ.out.2.1 HZ.out.2.2.1 HZ.out.2.2.2 rfl (by decide) _ acc.length (acc.flatMap GY) rfl ?dO ⟨w1.heap.size,0,none⟩ 1 1 [.slice Au nu cu,.int .i64 0] (by rfl) (by rfl) ?d1 ?d2 ?d3 ?d4 ?d5 ?_)
   case dO=>exact(HA1.out.on ((Below.refl w1.heap.size w1).alloc (Nat.le_refl _) _)).row
   case d1=>exact World.news_of_block (cs:=#[.slice Au nu cu,.int .i64 0]) (alloc_at rfl)
   case d2=>intro y hy;simp at hy;rcases hy with rfl|rfl<;>rfl
   case d3=>rw[HN.out];unfold maxLen;omega
   case d4=>rw[HN.out];omega
   case d5=>simp;omega
   intro v5 w5 hown5 hgrow5 _;have HB5:Hid (Below w.heap.size w w5):=AA ((HB1.out.alloc hsz1 _).grown hgrow5 (by simp;omega) (fun q hq=>(AM HA1.out.row q hq).1));have HA5:Hid (ER w5 w.heap.size v5 (acc++[⟨DR a.c,.slice Au nu cu⟩])):=AA (QEC (x:=⟨DR a.c,.slice Au nu cu⟩) (HA1.out.on ((Below.refl w1.heap.size w1).alloc (Nat.le_refl _) _)) (HU1.out.on ((Below.refl w1.heap.size w1).alloc (Nat.le_refl _) _)) hgrow5 hown5);obtain⟨A5,n5,c5,rfl⟩:∃A n c,v5=.slice A n c:=by
    obtain⟨A,c,hv,_⟩:=AX hown5;exact⟨A,_,c,hv⟩
   clear hown5 hgrow5;go_wp2_with fail
   go_roundw;case rel=>exact⟨k+1,_,by omega,by go_num,HB5.out,HA5.out,by rw[←HT.out,List.map_append];rfl⟩
   case measure=>simp[intOf];omega
  ·have hkk:K.take k=K:=List.take_of_length_le (by omega);rw[hkk]at hmap;have HM:=AA hmap;clear hbel hacc hmap hkk;go_wp2_with fail
   go_ret;exact⟨_,rfl,⟨acc,HA.out,HM.out⟩,HB.out⟩
theorem QCP {K:List Clm} {v:Value} {w:World} {B:Nat} (h:It w B v K) (hl:K.length≤10000) (hs:∀x∈K,x.e.length≤10000):
  Calls Tryz.prog 40 #[v,.func (.func 41) #[] #[]] w (fun e w'=>∃u,e=.returned u∧It w' w.heap.size u (K.map DR)∧Below w.heap.size w w'):=by
 obtain⟨K',hK,rfl⟩:=h;have:=QFS hK (by rw[List.length_map]at hl;exact hl) (fun x hx=>hs _ (List.mem_map_of_mem hx));rw[List.map_map];exact this
end Go.Proofs.YthfkpalfopdmhaaGreatDoor
