/- Texts of the walk, packed. -/
import Derived.Test.YthfkpalfopdmhaaGreatDoorX15
import Derived.Test.YthfkpalfopdmhaaGreatDoorX10
import Derived.Test.YthfkpalfopdmhaaGreatDoorX14
import Derived.Lib.Builder
import Derived.Test.YthfkpalfopdmhaaGreatDoorX09
import Derived.Test.YthfkpalfopdmhaaGreatDoorX07
import Derived.Test.YthfkpalfopdmhaaGreatDoorX03
import Derived.Test.YthfkpalfopdmhaaGreatDoorX13
import Derived.Test.YthfkpalfopdmhaaGreatDoorX02
import Derived.Test.YthfkpalfopdmhaaGreatDoorX05
import Derived.Lib.OthersKept
import Derived.Lib.AppendStr
import Derived.Lib.AppendIntMem
import Derived.Lib.UnsafeStr
import Derived.WalkKit
import Derived.Laws.Externs
import Derived.RegionTactic
import Derived.Test.YthfkpalfopdmhaaGreatDoorX16
import Derived.Test.YthfkpalfopdmhaaGreatDoorX00
namespace Go.Proofs.YthfkpalfopdmhaaGreatDoor
open Go.RowKit
structure Sv where
 s:Stm
 vE:Value
 vF:Value
def Be (x:Sv):List Value:=[.int .i64 x.s.kind,.string ⟨x.s.reg.toArray⟩,.string ⟨x.s.name.toArray⟩,x.vE,x.vF,.int .i64 x.s.n,.int .i64 x.s.body,.int .i64 x.s.els,.int .i64 x.s.pl]
def CC (K:List Sv):List Value:=K.flatMap Be
theorem J6 (K:List Sv):(CC K).length=K.length*9:=by
 induction K with
 |nil=>rfl
 |cons x K ih=>unfold CC at *;rw[List.flatMap_cons,List.length_append,ih];simp[Be];omega
theorem E6 (K M:List Sv):CC (K++M)=CC K++CC M:=by unfold CC;rw[List.flatMap_append]
structure AG (P:Nat→Prop) (w w':World):Prop where
 os:w'.os=w.os
 tape:w'.tape=w.tape
 output:w'.output=w.output
 size:w.heap.size≤w'.heap.size
 block:∀k,k<w.heap.size→¬P k→w'.heap[k]?=w.heap[k]?
theorem AG.refl (P:Nat→Prop) (w:World):AG P w w:=⟨rfl,rfl,rfl,Nat.le_refl _,fun _ _ _=>rfl⟩
theorem AG.trans {P Q R:Nat→Prop} {w w1 w2:World} (h:AG P w w1) (k:AG Q w1 w2) (hP:∀k,k<w.heap.size→P k→R k) (hQ:∀k,k<w.heap.size→Q k→R k):AG R w w2:=
 ⟨k.os.trans h.os,k.tape.trans h.tape,k.output.trans h.output,Nat.le_trans h.size k.size,fun i hi hg=>(k.block i (Nat.lt_of_lt_of_le hi h.size) (fun q=>hg (hQ i hi q))).trans (h.block i hi (fun p=>hg (hP i hi p)))⟩
theorem AG.of {P:Nat→Prop} {w w':World} (h:Below w.heap.size w w'):AG P w w':=⟨h.os,h.tape,h.output,h.size,fun k hk _=>h.block k hk⟩
theorem AG.mono {P Q:Nat→Prop} {w w':World} (h:AG P w w') (hP:∀k,k<w.heap.size→P k→Q k):AG Q w w':=⟨h.os,h.tape,h.output,h.size,fun k hk hq=>h.block k hk (fun p=>hq (hP k hk p))⟩
theorem AG.below {P:Nat→Prop} {w w':World} (h:AG P w w') {B:Nat} (hB:∀k,k<B→¬P k) (hw:B≤w.heap.size):Below B w w':=
 ⟨h.os,h.tape,h.output,h.size,fun k hk=>h.block k (by omega) (hB k hk)⟩
theorem AG.set {g j:Nat} {w:World} {v:Value}:AG (fun k=>k=g) w (w.setCell ⟨g,j,none⟩ v):=
 ⟨rfl,rfl,rfl,by simp,fun k _ hg=>Below.heap_setCell _ _ _ _ hg⟩
structure CY (B:Nat) (w:World) (v:Value) (l:List Nod):Prop where
 rd:BA w v l
 blk:∀q,v.ownBlock=some q→B≤q∧∃cs,w.heap[q]?=some (.cells cs 46 (0,0))
theorem CY.keep {B:Nat} {P:Nat→Prop} {w w':World} {v:Value} {l:List Nod} (h:CY B w v l) (hk:AG P w w') (hP:∀q cs fr,w.heap[q]?=some (.cells cs 46 fr)→¬P q):CY B w' v l:=by
 obtain⟨⟨A,c,hv,h1,h2,h3⟩,h4⟩:=h;subst hv;have key:∀q,(Value.slice A l.length c).ownBlock=some q→w'.heap[q]?=w.heap[q]?∧q<w'.heap.size:=by
  intro q hq;obtain⟨_,cs,hh⟩:=h4 q hq;have hlt:=(Array.getElem?_eq_some_iff.1 hh).1;exact⟨hk.block q hlt (hP q cs _ hh),Nat.lt_of_lt_of_le hlt hk.size⟩
 refine⟨⟨A,c,rfl,h1,h2,fun i t hi=>?_⟩,fun q hq=>?_⟩
 ·obtain⟨g,o,rfl,hg,c0,c1,c2,c3⟩:=h3 i t hi;obtain⟨e1,e2⟩:=key g rfl;have e:∀j,w'.cell? ⟨g,j,none⟩=w.cell? ⟨g,j,none⟩:=fun j=>World.cell?_of_block e1
  exact⟨g,o,rfl,e2,by rw[e,c0],by rw[e,c1],by rw[e,c2],by rw[e,c3]⟩
 ·obtain⟨hB,cs,hh⟩:=h4 q hq;exact⟨hB,cs,by rw[(key q hq).1];exact hh⟩
theorem CY.on {B:Nat} {w w':World} {v:Value} {l:List Nod} (h:CY B w v l) (hb:Below w.heap.size w w'):CY B w' v l:=h.keep (P:=fun _=>False) (AG.of hb) (fun _ _ _ _=>id)
theorem IW (B:Nat) (w:World):CY B w (.slice none 0 0) []:=⟨⟨none,0,rfl,Nat.le_refl _,Nat.zero_le _,fun i t h=>by simp at h⟩,fun q h=>by simp[Value.ownBlock]at h⟩
theorem CL.readE {w:World} {B B':Nat} {v:Value} {l:List Nod} (h:CL w B v l) (hBB:B'≤B):CY B' w v l:=by
 refine⟨h.read,fun q hq=>?_⟩;rcases h.2 with⟨rfl,_⟩|⟨g,cap,cur,rfl,hB,hh,_⟩
 ·simp[Value.ownBlock]at hq
 ·simp[Value.ownBlock]at hq;subst hq;exact⟨Nat.le_trans hBB hB,_,hh⟩
structure Src (L:List Tok) (W0:World) (lv:Value):Prop where
 toks:Gg W0 lv L
 tabs:Tabs W0
 len:L.length≤10000
 small:Gl L
structure Dm (L:List Tok) (W0:World) (g:Nat) (lv:Value) (i d l m:Nat) (pl:Int) (K:List Sv) (kv:Value) (w:World):Prop where
 low:Below W0.heap.size W0 w
 gB:W0.heap.size≤g
 blk:w.heap[g]?=some (.cells #[lv,.int .i64 i,.int .i64 d,.int .i64 l,.int .i64 m,kv,.int .i64 pl] 255 (0,0))
 row:w.ownsRow W0.heap.size 44 9 kv K.length (CC K)
 rds:∀x∈K,CY W0.heap.size w x.vE x.s.e∧CY W0.heap.size w x.vF x.s.f
 len:K.length=min m 40
 il:i≤L.length∨m=0
 mi:m≤i
 dd:d≤13
 ll:l≤d
def Mine (g:Nat) (kv:Value) (k:Nat):Prop:=k=g∨kv.ownBlock=some k
theorem Pm {w:World} {B:Nat} {v:Value} {n:Nat} {xs:List Value} (h:w.ownsRow B 44 9 v n xs):∀q,v.ownBlock=some q→B≤q∧∃cs,w.heap[q]?=some (.cells cs 44 (0,0)):=by
 intro q hq;rcases h.2 with⟨rfl,_⟩|⟨g',cap,cur,rfl,hB,hgg,_⟩
 ·simp[Value.ownBlock]at hq
 ·simp[Value.ownBlock]at hq;subst hq;exact⟨hB,cur,hgg⟩
theorem Kt {P:Nat→Prop} {w w':World} {B:Nat} {v:Value} {n:Nat} {xs:List Value} (h:w.ownsRow B 44 9 v n xs) (hk:AG P w w') (hP:∀q,v.ownBlock=some q→¬P q):w'.ownsRow B 44 9 v n xs:=by
 refine⟨h.1,?_⟩;rcases h.2 with h|⟨g',cap,cur,rfl,hB,hgg,r⟩
 ·exact .inl h
 ·exact .inr ⟨g',cap,cur,rfl,hB,by rw[hk.block g' (Array.getElem?_eq_some_iff.1 hgg).1 (hP g' rfl)];exact hgg,r⟩
section
variable {L:List Tok} {W0:World} {g:Nat} {lv:Value} {i d l m:Nat} {pl:Int} {K:List Sv} {kv:Value} {w:World}
theorem Dm.lt (h:Dm L W0 g lv i d l m pl K kv w):g<w.heap.size:=(Array.getElem?_eq_some_iff.1 h.blk).1
theorem Dm.own_ne (h:Dm L W0 g lv i d l m pl K kv w):∀q,kv.ownBlock=some q→q≠g∧q<w.heap.size∧W0.heap.size≤q:=by
 intro q hq;obtain⟨hB,cs,hh⟩:=Pm h.row q hq;refine⟨?_,(Array.getElem?_eq_some_iff.1 hh).1,hB⟩;rintro rfl;rw[h.blk]at hh;simp at hh
theorem Dm.mine_low (h:Dm L W0 g lv i d l m pl K kv w):∀k,k<W0.heap.size→¬Mine g kv k:=by
 rintro k hk (rfl|hq)
 ·have:=h.gB;omega
 ·have:=(h.own_ne k hq).2.2;omega
theorem Dm.mine_nodes (h:Dm L W0 g lv i d l m pl K kv w):∀q cs fr,w.heap[q]?=some (.cells cs 46 fr)→¬Mine g kv q:=by
 rintro q cs fr hh (rfl|hq)
 ·rw[h.blk]at hh;simp at hh
 ·obtain⟨_,cs',hh'⟩:=Pm h.row q hq;rw[hh']at hh;simp at hh
theorem Dm.c0 (h:Dm L W0 g lv i d l m pl K kv w):w.cell? ⟨g,0,none⟩=some lv:=by rw[Lib.cell_of_heap h.blk];rfl
theorem Dm.c1 (h:Dm L W0 g lv i d l m pl K kv w):w.cell? ⟨g,1,none⟩=some (.int .i64 i):=by rw[Lib.cell_of_heap h.blk];rfl
theorem Dm.c2 (h:Dm L W0 g lv i d l m pl K kv w):w.cell? ⟨g,2,none⟩=some (.int .i64 d):=by rw[Lib.cell_of_heap h.blk];rfl
theorem Dm.c3 (h:Dm L W0 g lv i d l m pl K kv w):w.cell? ⟨g,3,none⟩=some (.int .i64 l):=by rw[Lib.cell_of_heap h.blk];rfl
theorem Dm.c4 (h:Dm L W0 g lv i d l m pl K kv w):w.cell? ⟨g,4,none⟩=some (.int .i64 m):=by rw[Lib.cell_of_heap h.blk];rfl
theorem Dm.c5 (h:Dm L W0 g lv i d l m pl K kv w):w.cell? ⟨g,5,none⟩=some kv:=by rw[Lib.cell_of_heap h.blk];rfl
theorem Dm.c6 (h:Dm L W0 g lv i d l m pl K kv w):w.cell? ⟨g,6,none⟩=some (.int .i64 pl):=by rw[Lib.cell_of_heap h.blk];rfl
theorem Dm.fz (h:Dm L W0 g lv i d l m pl K kv w) (j:Nat):w.frozen? ⟨g,j,none⟩=false:=Lib.frozen_of_heap h.blk j
theorem Dm.put (h:Dm L W0 g lv i d l m pl K kv w) {w':World} {i' d' l' m':Nat} {pl':Int} (hk:AG (fun k=>k=g) w w') (hb:w'.heap[g]?=some (.cells #[lv,.int .i64 i',.int .i64 d',.int .i64 l',.int .i64 m',kv,.int .i64 pl'] 255 (0,0))) (hm:min m' 40=min m 40) (hi:i'≤L.length∨m'=0) (hmi:m'≤i') (hd:d'≤13) (hl:l'≤d'):Dm L W0 g lv i' d' l' m' pl' K kv w':=by
 have hg:=h.gB;refine⟨h.low.trans (hk.below (fun k hk e=>by omega) h.low.size),hg,hb,Kt h.row hk (fun q hq e=>(h.own_ne q hq).1 e),fun x hx=>?_,by rw[h.len,hm],hi,hmi,hd,hl⟩;obtain⟨h1,h2⟩:=h.rds x hx;have hn:∀q cs fr,w.heap[q]?=some (.cells cs 46 fr)→¬(q=g):=fun q cs fr hh e=>h.mine_nodes q cs fr hh (.inl e)
 exact⟨h1.keep hk hn,h2.keep hk hn⟩
theorem Am {j:Nat} {v:Value} {cs:Array Value} {T:TypeId} {fr:Nat×Nat} (h:w.heap[g]?=some (.cells cs T fr)):(w.setCell ⟨g,j,none⟩ v).heap[g]?=some (.cells (cs.setIfInBounds j v) T fr):=by
 simp[World.setCell,Array.getElem?_modify,h]
theorem Dm.set1 (h:Dm L W0 g lv i d l m pl K kv w) {j:Nat} (hj:j≤L.length) (hm:m≤j):Dm L W0 g lv j d l m pl K kv (w.setCell ⟨g,1,none⟩ (.int .i64 j)):=
 h.put AG.set (Am h.blk) rfl (.inl hj) hm h.dd h.ll
theorem Dm.set2 (h:Dm L W0 g lv i d l m pl K kv w) {j:Nat} (hj:j≤13) (hl:l≤j):Dm L W0 g lv i j l m pl K kv (w.setCell ⟨g,2,none⟩ (.int .i64 j)):=
 h.put AG.set (Am h.blk) rfl h.il h.mi hj hl
theorem Dm.set3 (h:Dm L W0 g lv i d l m pl K kv w) {j:Nat} (hl:j≤d):Dm L W0 g lv i d j m pl K kv (w.setCell ⟨g,3,none⟩ (.int .i64 j)):=
 h.put AG.set (Am h.blk) rfl h.il h.mi h.dd hl
theorem Dm.set6 (h:Dm L W0 g lv i d l m pl K kv w) (p:Int):Dm L W0 g lv i d l m p K kv (w.setCell ⟨g,6,none⟩ (.int .i64 p)):=
 h.put AG.set (Am h.blk) rfl h.il h.mi h.dd h.ll
theorem Dm.on (h:Dm L W0 g lv i d l m pl K kv w) {w':World} (hb:Below w.heap.size w w'):Dm L W0 g lv i d l m pl K kv w':=
 h.put (AG.of hb) (by rw[hb.block g h.lt];exact h.blk) rfl h.il h.mi h.dd h.ll
theorem Dm.toks (h:Dm L W0 g lv i d l m pl K kv w) (hs:Src L W0 lv):Gg w lv L:=by
 obtain⟨A,c,hv,hc,hr⟩:=hs.toks;refine⟨A,c,hv,hc,fun i t hi=>?_⟩;obtain⟨b,hA,hb,h0,h1,h2,h3⟩:=hr i t hi;have e:∀j,w.cell? ⟨b,j,none⟩=W0.cell? ⟨b,j,none⟩:=fun j=>h.low.cell (p:=⟨b,j,none⟩) hb
 exact⟨b,hA,Nat.lt_of_lt_of_le hb h.low.size,by rw[e];exact h0,by rw[e];exact h1,by rw[e];exact h2,by rw[e];exact h3⟩
theorem Dm.tabs (h:Dm L W0 g lv i d l m pl K kv w) (hs:Src L W0 lv):Tabs w:=hs.tabs.on h.low
end
end Go.Proofs.YthfkpalfopdmhaaGreatDoor
namespace Go.Proofs.YthfkpalfopdmhaaGreatDoor
open Go.RowKit
end Go.Proofs.YthfkpalfopdmhaaGreatDoor
namespace Go.Proofs.YthfkpalfopdmhaaGreatDoor
theorem Xg {L:List Tok} {i:Nat} {s t:List UInt8} (h:isB L i s=true) (h2:isB L i t=true):s=t:=by
 unfold isB at h h2;simp only[Int.natCast_nonneg,Int.toNat_natCast]at h h2;cases hl:L[i]? with
 |none=>simp[hl]at h
 |some a=>
  simp[hl]at h h2;rw[←h.2,←h2.2]
end Go.Proofs.YthfkpalfopdmhaaGreatDoor
namespace Go.Proofs.YthfkpalfopdmhaaGreatDoor
open Go.RowKit
theorem QA6 {L:List Tok} {i:Nat} {s:List UInt8} {t:Tok} (h:isB L i s=true) (ht:L[i]?=some t):t.text=s:=by
 unfold isB at h;rw[Int.toNat_natCast,ht]at h;simp at h;exact h.2
theorem QEQ:(Tryz.prog.info? 93).map (fun i=>i.size)=some 2:=by kernel_rfl
set_option maxHeartbeats 1000000 in
set_option maxRecDepth 100000 in
theorem WZ (b:Nat) (w:World) (h0:w.cell? ⟨b,0,none⟩=some (.pointer (some ⟨b,0,none⟩))):
  Calls Tryz.prog 114 #[.pointer (some ⟨b,0,none⟩)] w fun e w'=>e=.returned (.tuple #[])∧w'=w:=by
 obtain⟨j,hj,_⟩:=Option.map_eq_some_iff.1 QEQ;go_enter Tryz.func114,Tryz.ntmps114
 go_wp2
 rw[Lib.run_neq_ptr_same w _ Tryz.underlying91 hj]
 go_wp2
 go_end0
 exact⟨rfl,rfl⟩
set_option maxHeartbeats 1000000 in
set_option maxRecDepth 100000 in
theorem Uy (b:Nat) (w:World) (h0:w.cell? ⟨b,0,none⟩=some (.pointer none)) (hsh:w.shape? b=some (93,2)) (hfz:w.frozen? ⟨b,0,none⟩=false):
  Calls Tryz.prog 114 #[.pointer (some ⟨b,0,none⟩)] w fun e w'=>e=.returned (.tuple #[])∧w'=w.setCell ⟨b,0,none⟩ (.pointer (some ⟨b,0,none⟩)):=by
 obtain⟨j,hj,hjs⟩:=Option.map_eq_some_iff.1 QEQ;go_enter Tryz.func114,Tryz.ntmps114
 go_wp2
 rw[Lib.run_to_unsafe w ⟨b,0,none⟩ Tryz.underlying91 Tryz.underlying176 hj (by rw[hjs];decide) hsh (Nat.zero_lt_succ 1)];simp only[Result.andThen];rw[Oper.upon_value]
 go_wp2
 rw[run_callFunc_extern Tryz.func164 (by kernel_rfl) (by kernel_rfl) (by kernel_rfl) (e:=Extern.AbiNoEscape.same) (by kernel_rfl)];rw[Lib.run_noEscape];simp only[Result.andThen];rw[Oper.upon_value]
 go_wp2
 rw[Lib.run_from_unsafe w ⟨b,0,none⟩ Tryz.underlying176 Tryz.underlying91 hj hsh (by kernel_rfl)];simp only[Result.andThen];rw[Oper.upon_value]
 go_wp2
 go_end0
 exact⟨rfl,rfl⟩
theorem check_any (B b:Nat) (bs:List Value) (w:World) (h:Lib.IsBuilder 93 5 B b bs w):
  Calls Tryz.prog 114 #[.pointer (some ⟨b,0,none⟩)] w fun e w'=>e=.returned (.tuple #[])∧(Lib.BuilderAt 93 5 B b (.pointer (some ⟨b,0,none⟩)) bs w'∧Below B w w'∧Lib.OthersKept 5 (some b) w w'):=by
 rcases h with h|h
 ·refine(Uy b w h.cell0 h.shape h.frozen0).mono ?_;rintro e w' ⟨rfl,rfl⟩;exact⟨rfl,h.used _,(Below.refl B w).setCell (p:=⟨b,0,none⟩) h.1 _,(Lib.OthersKept.refl 5 (some b) w).setCell ⟨b,0,none⟩ rfl _⟩
 ·refine(WZ b w h.cell0).mono ?_;rintro e w' ⟨rfl,rfl⟩;exact⟨rfl,h,Below.refl B _,Lib.OthersKept.refl 5 (some b) _⟩
theorem QBC {w:World} {B:Nat} {e:TypeId} {v:Value} {n:Nat} {xs:List Value} (h:w.ownsRow B e 1 v n xs):∀g,v.ownBlock=some g→∃c fz,w.heap[g]?=some (.cells c e fz):=by
 intro g hg;rcases h.2 with⟨rfl,_⟩|⟨g',cap,cur,rfl,_,hgg,_⟩
 ·simp[Value.ownBlock]at hg
 ·simp[Value.ownBlock]at hg;subst hg;exact⟨cur,(0,0),hgg⟩
theorem infoByte:(Tryz.prog.info? 5).map (fun i=>(i.zero,i.size,i.bytes))=some (some (.int .u8 0),1,1):=by kernel_rfl
set_option maxHeartbeats 2000000 in
set_option maxRecDepth 100000 in
theorem write_any (B b:Nat) (bs:List Value) (s:ByteArray) (w:World) (h:Lib.IsBuilder 93 5 B b bs w) (hlen:bs.length+s.size≤140737488355328) (hBw:B≤w.heap.size):
  Calls Tryz.prog 56 #[.pointer (some ⟨b,0,none⟩),.string s] w fun e w'=>e=.returned (.tuple #[.int .i64 s.size,.nilIface])∧(Lib.BuilderAt 93 5 B b (.pointer (some ⟨b,0,none⟩)) (bs++Lib.strCells s) w'∧Below B w w'∧Lib.OthersKept 5 (some b) w w'):=by
 obtain⟨i0,hi,hz0,hz1,hz2⟩:=info_parts infoByte;go_enter Tryz.func56,Tryz.ntmps56;go_wp2_with (go_at_call 114;refine(check_any B b bs _ h).mono ?_)
 rintro e w1 ⟨rfl,h1,hb1,ho1⟩;obtain⟨hB,v,hbk,hown,hne⟩:=h1;have c0:w1.cell? ⟨b,0,none⟩=some (.pointer (some ⟨b,0,none⟩)):=by rw[Lib.cell_of_heap hbk];rfl
 have c1:w1.cell? ⟨b,1,none⟩=some v:=by rw[Lib.cell_of_heap hbk];rfl
 go_wp2_with (at_builtin;refine Lib.wpList_append_own_string _ rfl _ _ 51 9 rfl B 5 i0 Tryz.underlying51 Tryz.underlying9 hi hz0 hz1 hz2 _ _ _ rfl hown s rfl ?c3 ?c4 ?c5 ?_)
 case c3=>unfold maxLen;omega
 case c4=>omega
 case c5=>have:=hb1.size;omega
 intro v' w2 hown' hgrow _;have hlt:b<w1.heap.size:=by
  rcases Nat.lt_or_ge b w1.heap.size with h'|h'
  ·exact h'
  ·simp[Array.getElem?_eq_none h']at hbk
 have hb2:w2.heap[b]?=some (.cells #[.pointer (some ⟨b,0,none⟩),v] 93 (0,0)):=by
  rw[hgrow.block b hlt (fun e=>hne e.symm)];exact hbk
 have d0:w2.cell? ⟨b,0,none⟩=some (.pointer (some ⟨b,0,none⟩)):=by rw[Lib.cell_of_heap hb2];rfl
 have d1:w2.cell? ⟨b,1,none⟩=some v:=by rw[Lib.cell_of_heap hb2];rfl
 have f1:w2.frozen? ⟨b,1,none⟩=false:=Lib.frozen_of_heap hb2 1;obtain⟨ao,n',cap,rfl⟩:∃ao n' cap,v'=.slice ao n' cap:=by
  rcases hown'.2 with⟨hv,_⟩|⟨g,cap,cur,hv,_⟩
  ·exact⟨_,_,_,hv⟩
  ·exact⟨_,_,_,hv⟩
 go_wp2
 go_ret2
 refine⟨rfl,?_,?_,?_⟩
 ·exact Lib.BuilderAt.put (T:=93) (e:=5) hB hb2 (bs':=bs++Lib.strCells s) (by simpa[Lib.strCells_length]using hown') (by decide)
 ·exact(hb1.grown hgrow (by have:=hb1.size;omega) (fun k hk=>(hown.lt k hk).1)).setCell (p:=⟨b,1,none⟩) hB _
 ·exact(ho1.grown hgrow (QBC hown)).setCell ⟨b,1,none⟩ rfl _
theorem L2 {B b:Nat} {bs:List Value} {w w':World} (h:Lib.IsBuilder 93 5 B b bs w) (hb:Below w.heap.size w w'):Lib.IsBuilder 93 5 B b bs w':=by
 have key:∀p,Lib.BuilderAt 93 5 B b p bs w→Lib.BuilderAt 93 5 B b p bs w':=by
  rintro p ⟨h1,v,h2,h3,h4⟩;have hlt:b<w.heap.size:=(Array.getElem?_eq_some_iff.1 h2).1;refine⟨h1,v,by rw[hb.block b hlt];exact h2,⟨h3.1,?_⟩,h4⟩;rcases h3.2 with h|⟨g,cap,cur,q1,q2,q3,q4⟩
  ·exact .inl h
  ·exact .inr ⟨g,cap,cur,q1,q2,by rw[hb.block g (Array.getElem?_eq_some_iff.1 q3).1];exact q3,q4⟩
 rcases h with h|h
 ·exact .inl (key _ h)
 ·exact .inr (key _ h)
def TM (B b n:Nat) (l:List UInt8) (w:World) (e:Ending) (w':World):Prop:=
 e=.returned (.tuple #[.int .i64 n,.nilIface])∧Lib.IsBuilder 93 5 B b (Lib.byteCells l) w'∧Below B w w'∧Lib.OthersKept 5 (some b) w w'
theorem EX (B b:Nat) (l s:List UInt8) (w:World) (h:Lib.IsBuilder 93 5 B b (Lib.byteCells l) w) (hlen:l.length+s.length≤1000000000) (hBw:B≤w.heap.size):
  Calls Tryz.prog 56 #[.pointer (some ⟨b,0,none⟩),.string ⟨s.toArray⟩] w (TM B b s.length (l++s) w):=by
 refine(write_any B b (Lib.byteCells l) ⟨s.toArray⟩ w h ?_ hBw).mono ?_
 ·have:(⟨s.toArray⟩:ByteArray).size=s.length:=rfl;rw[Lib.byteCells_length,this];omega
 ·rintro e w' ⟨rfl,h1,h2,h3⟩;refine⟨rfl,.inr ?_,h2,h3⟩;have e1:Lib.byteCells (l++s)=Lib.byteCells l++Lib.strCells ⟨s.toArray⟩:=by simp[Lib.byteCells,Lib.strCells_toArray]
  rw[e1];exact h1
end Go.Proofs.YthfkpalfopdmhaaGreatDoor
namespace Go.Proofs.YthfkpalfopdmhaaGreatDoor
open Go
def FW:Bk→Bk
 |.nil=>.nil
 |.cons s b e r=>.cons (bareS s) (FW b) (FW e) (FW r)
theorem EU (b:Bk):(FW b).count=b.count:=by
 induction b with
 |nil=>rfl
 |cons s b e r h1 h2 h3=>simp only[FW,Bk.count,h1,h2,h3]
theorem L8 {b b':Bk} (h:FW b'=FW b):b'.count=b.count:=by rw[←EU,h,EU]
theorem Iq (b:Bk):(FW b).flat=b.flat.map bareS:=by
 induction b with
 |nil=>rfl
 |cons s b e r h1 h2 h3=>simp only[FW,Bk.flat,h1,h2,h3,List.map_cons,List.map_append]
theorem Wc (b:Bk):(FW b).deep=b.deep:=by
 induction b with
 |nil=>rfl
 |cons s b e r h1 h2 h3=>simp only[FW,Bk.deep,h1,h2,h3];rfl
theorem We {x:Stm} (h:Dy x=true):∃u T,Ho x=wd u::T∧(u==FU)=false:=by
 obtain⟨k,hk,h1,h2⟩:=Hk h;obtain⟨_,_,_,hr,hn,he,hf,ht⟩:=J5 hk h;have key:∀k:Fin 15,2≤k.1→(Jr (k.1:Nat)==FU)=false:=by decide
 have kw:2≤k→(Jr (k:Nat)==FU)=false:=fun h=>key ⟨k,by omega⟩ h
 unfold Ho;rw[hk];have hkk:k=1∨k=2∨k=3∨k=4∨(k=11∨k=14)∨k=12∨(k=7∨k=8∨k=13)∨(k=5∨k=6∨k=9∨k=10):=by omega
 rcases hkk with rfl|rfl|rfl|rfl|h|rfl|h|h
 ·refine⟨x.reg,_,rfl,?_⟩;have hr':nameB x.reg=true:=hr;rw[beq_eq_false_iff_ne];intro e;rw[e]at hr';exact absurd hr' (by decide)
 ·exact⟨_,_,rfl,kw (by omega)⟩
 ·exact⟨_,_,rfl,kw (by omega)⟩
 ·exact⟨_,_,rfl,kw (by omega)⟩
 ·rw[if_neg (by omega),if_neg (by omega),if_neg (by omega),if_neg (by omega),if_pos (by omega)];exact⟨_,_,rfl,kw (by omega)⟩
 ·exact⟨_,_,rfl,kw (by omega)⟩
 ·rw[if_neg (by omega),if_neg (by omega),if_neg (by omega),if_neg (by omega),if_neg (by omega),if_neg (by omega),if_pos (by omega)];exact⟨_,_,rfl,kw (by omega)⟩
 ·rw[if_neg (by omega),if_neg (by omega),if_neg (by omega),if_neg (by omega),if_neg (by omega),if_neg (by omega),if_neg (by omega)];exact⟨_,_,rfl,kw (by omega)⟩
theorem QBK {r:Bk} (h:FV r) {L:List Tok} {i:Nat} {R:List Tok} (hF:Aj L i (Dn r++sg 125::R)):isB L i FU=false:=by
 cases r with
 |nil=>
  have hF':Aj L i (sg 125::R):=hF;rw[Bo hF'];rfl
 |cons s b e r=>
  obtain⟨_,_,_,_,g,_⟩:=Gt.1 h;obtain⟨u,T,e1,e2⟩:=We g;unfold Dn at hF;rw[e1]at hF;simp only[List.cons_append]at hF;rw[Bo hF];show(((1:Int)==1||(1:Int)==3)&&(u==FU))=false;rw[e2];rfl
theorem QDS {L:List Tok} {i:Nat} {R:List Tok} (hF:Aj L i (wd FU::R)):isB L i FU=true:=by
 rw[Bo hF];rfl
theorem U3 {L:List Tok} {f i d l n:Nat} {b:Bk} {T R:List Tok} (hd:d≤12) (hF:Aj L i (sg 123::(T++sg 125::R))) (hn:n=T.length) (hr:Ci L f (i+1) d l=some (.ok b (i+1+n))):
  Bz (Ci L f) L i d l=some (.ok b (i+1+n+1))∧Aj L (i+1+n+1) R:=by
 obtain⟨a1,hF1⟩:=FR hF;have hF2:=hF1.app;rw[←hn]at hF2;obtain⟨a2,hF3⟩:=FR hF2;refine⟨?_,hF3⟩;unfold Bz;rw[if_neg (by omega),a1,RS.obind_ok,hr,RS.obind_ok,a2,RS.obind_ok]
theorem U4 {s x:Stm} (h:Ip s=Ip x) (h1:s.body=x.body) (h2:s.els=x.els):bareS s=bareS x:=by
 obtain⟨a1,a2,a3,a4,a5,a6,a7,a8,a9⟩:=s;obtain⟨b1,b2,b3,b4,b5,b6,b7,b8,b9⟩:=x;simp only[Ip,bareS,Stm.mk.injEq]at h h1 h2⊢;simp[h,h1,h2]
theorem ZM {s:Stm} (m n:Int):Ip {s with body:=m,els:=n}=Ip s:=rfl
theorem QBL:∀(b:Bk) (L:List Tok) (i d l:Nat) (R:List Tok),FV b→b.brk l=true→d+b.deep≤12→Aj L i (Dn b++sg 125::R)→∃b' f,FW b'=FW b∧Ci L f i d l=some (.ok b' (i+(Dn b).length)):=by
 intro b
 induction b with
 |nil=>
  intro L i d l R _ _ _ hF;have hF':Aj L i (sg 125::R):=hF;refine⟨.nil,1,rfl,?_⟩;rw[DI,if_pos (by rw[Bo hF'];rfl)];rfl
 |cons s b e r i1 i2 i3=>
  intro L i d l R h hb hd hF;obtain⟨h1,h2,h3,h4,g1,g2,g3,g4⟩:=Gt.1 h;simp only[Bk.brk,Bool.and_eq_true,Bool.or_eq_true,Bool.not_eq_true',decide_eq_true_eq,decide_eq_false_iff_not]at hb;obtain⟨⟨⟨b0,b1⟩,b2⟩,b3⟩:=hb;simp only[Bk.deep]at hd;unfold Dn at hF⊢;by_cases hk:GT s.kind
  ·rw[if_pos hk]at hF hd⊢;have hF:Aj L i (Ho s++sg 123::(Dn b++sg 125::(Hq (Dn e) e.count++(Dn r++sg 125::R)))):=by simpa using hF
   obtain⟨k1,k2,s',p1,p2,p3,p4,p5⟩:=Xj g1 (.inr (.inr rfl)) hF;have hFb:=TN hF;obtain⟨_,_,_,hF1⟩:=Aj.head hFb;have hin:Yn (Ao L i) l=if s.kind=12 then l+1 else l:=by
    unfold Yn;by_cases hc:Ao L i=12
    ·rw[if_pos hc,if_pos (by omega)]
    ·rw[if_neg hc,if_neg (by omega)]
   rw[←hin]at b1 b2;obtain⟨b',f1,q1,r1⟩:=i1 L _ (d+1) _ _ g2 b1 (by omega) hF1;obtain⟨w1,hF2⟩:=U3 (by omega) hFb rfl r1;have hkk:GT (Ao L i:Nat):=by rw[k1];exact hk
   have key:∃e' f2 j,FW e'=FW e∧j=i+(Ho s).length+1+(Dn b).length+1+(Hq (Dn e) e.count).length∧Df (Ci L f2) L (Ao L i) (i+(Ho s).length+1+(Dn b).length+1) (d+1) (Yn (Ao L i) l)=some (.ok e' j)∧Aj L j (Dn r++sg 125::R):=by
    by_cases hc:0<e.count
    ·have hk11:Ao L i=11:=by have:=h4 hc;omega
     have et:Hq (Dn e) e.count=wd FU::sg 123::(Dn e++[sg 125]):=by unfold Hq;rw[if_pos hc]
     rw[et]at hF2⊢;have hF3:Aj L (i+(Ho s).length+1+(Dn b).length+1) (wd FU::(sg 123::(Dn e++sg 125::(Dn r++sg 125::R)))):=by simpa using hF2
     have ie:=QDS hF3;obtain⟨_,_,_,hF4⟩:=Aj.head hF3;obtain⟨_,_,_,hF5⟩:=Aj.head hF4;obtain⟨e',f2,q2,r2⟩:=i2 L _ (d+1) _ _ g3 b2 (by omega) hF5;obtain⟨w2,hF6⟩:=U3 (by omega) hF4 rfl r2;refine⟨e',f2,_,q2,?_,?_,hF6⟩
     ·simp only[List.length_cons,List.length_append,List.length_nil];omega
     ·unfold Df;rw[if_pos ⟨hk11,ie⟩];exact w2
    ·obtain rfl:e=.nil:=count_nil (by omega);have et:Hq (Dn .nil) (Bk.count .nil)=[]:=rfl;rw[et]at hF2⊢;have hF3:Aj L (i+(Ho s).length+1+(Dn b).length+1) (Dn r++sg 125::R):=hF2;refine⟨.nil,0,_,rfl,rfl,?_,hF3⟩;unfold Df;rw[if_neg (by rw[QBK g4 hF3];simp)];rfl
   obtain⟨e',f2,j,q2,ej,w2,hF7⟩:=key;obtain⟨r',f3,q3,r3⟩:=i3 L j d l R g4 b3 (by omega) hF7;have m1:=Ik (Il L (Nat.le_trans (Nat.le_max_left f1 f2) (Nat.le_max_left _ f3))) w1;have m2:=RR (Il L (Nat.le_trans (Nat.le_max_right f1 f2) (Nat.le_max_left _ f3))) w2;have m3:=Il L (Nat.le_max_right (max f1 f2) f3) _ _ _ _ r3;generalize max (max f1 f2) f3=F at m1 m2 m3;refine⟨.cons {s' with body:=b'.count,els:=e'.count} b' e' r',F+1,?_,?_⟩
   ·simp only[FW];rw[q1,q2,q3];congr 1;refine U4 ?_ ?_ ?_
    ·rw[ZM];exact p1
    ·show(b'.count:Int)=s.body;rw[h1,L8 q1]
    ·show(e'.count:Int)=s.els;rw[h2,L8 q2]
   ·rw[DI,if_neg (by rw[k2];simp)];have one:GO (Ci L F) L i d l=some (.ok ⟨{s' with body:=b'.count,els:=e'.count},b',e'⟩ j):=by
     unfold GO;rw[if_neg (by omega)];unfold Dz at p5;rw[p5,RS.obind_ok,if_neg (by simpa using hkk),m1,RS.obind_ok,m2,RS.obind_ok]
    rw[one,RS.obind_ok,m3,RS.obind_ok];congr 2;rw[ej];simp only[List.length_cons,List.length_append];omega
  ·rw[if_neg hk]at hF⊢;obtain rfl:b=.nil:=count_nil (by
    rcases Nat.eq_zero_or_pos b.count with h|h
    ·exact h
    ·exact absurd (h3 h) hk)
   obtain rfl:e=.nil:=count_nil (by
    rcases Nat.eq_zero_or_pos e.count with h|h
    ·exact h
    ·exact absurd (.inl (h4 h)) hk)
   have hF:Aj L i (Ho s++sg 59::(Dn r++sg 125::R)):=by simpa using hF
   obtain⟨k1,k2,s',p1,p2,p3,p4,p5⟩:=Xj g1 (.inl rfl) hF;obtain⟨a1,hF1⟩:=FR (TN hF);obtain⟨r',f3,q3,r3⟩:=i3 L _ d l R g4 b3 (by omega) hF1;refine⟨.cons s' .nil .nil r',f3+1,?_,?_⟩
   ·simp only[FW];rw[q3];congr 1;exact U4 p1 (by rw[p3,h1];rfl) (by rw[p4,h2];rfl)
   ·rw[DI,if_neg (by rw[k2];simp)];have one:GO (Ci L f3) L i d l=some (.ok ⟨s',.nil,.nil⟩ (i+(Ho s).length+1)):=by
     unfold GO;rw[if_neg (by omega)];unfold Dz at p5;rw[p5,RS.obind_ok,if_pos (by rw[k1];exact hk),a1,RS.obind_ok]
    rw[one,RS.obind_ok,r3,RS.obind_ok];congr 2;simp only[List.length_cons,List.length_append,List.length_nil];omega
theorem QBM {a b:Stm} (h:bareS a=bareS b):DO false a b=true:=by
 obtain⟨a1,a2,a3,a4,a5,a6,a7,a8,a9⟩:=a;obtain⟨b1,b2,b3,b4,b5,b6,b7,b8,b9⟩:=b;simp only[bareS,Stm.mk.injEq]at h;obtain⟨rfl,rfl,rfl,h4,h5,rfl,rfl,rfl,_⟩:=h;simp[DO,Nu h4,Nu h5]
theorem Rf:∀{L M:List Stm},L.map bareS=M.map bareS→Jy false L M=true
 |[],[],_=>rfl
 |[],b::m,h=>by simp at h
 |a::l,[],h=>by simp at h
 |a::l,b::m,h=>by
  simp only[List.map_cons,List.cons.injEq]at h;have ih:=Rf h.2;unfold Jy at *;unfold Ad;rw[QBM h.1,ih];rfl
def Bk.app:Bk→Bk→Bk
 |.nil,c=>c
 |.cons s b e r,c=>.cons s b e (r.app c)
structure Cel where
 name:List UInt8
 n:Int
 pl:Int
deriving DecidableEq
structure Thr where
 name:List UInt8
 regs:List (List UInt8)
 body:List Stm
 pl:Int
deriving DecidableEq
structure Clm where
 e:List Nod
 pl:Int
deriving DecidableEq
structure Prg where
 lines:List (List Cel)
 vols:List Cel
 locks:List Cel
 threads:List Thr
 recs:List Thr
 claims:List Clm
deriving DecidableEq
def noPg:Prg:=⟨[],[],[],[],[],[]⟩
def Le (n:Int):Bool:=decide (0≤n)&&decide (n≤4000)
def most32:Int:=4294967296
def Aw (most:Int) (c:Cel):Bool:=nameB c.name&&decide (0≤c.n)&&decide (c.n≤most)&&Le c.pl
def Bh (named:Bool) (t:Thr):Bool:=(if named then nameB t.name else t.name.isEmpty)&&Le t.pl&&CH t.body&&t.regs.all nameB
def Ef (c:Clm):Bool:=Le c.pl&&BZ c.e
def EC (l:List Cel):Bool:=!l.isEmpty&&l.all (Aw most32)
def BP (p:Prg):Bool:=p.lines.all EC&&p.claims.all Ef&&p.vols.all (Aw most32)&&p.locks.all (Aw 0)&&p.threads.all (Bh true)&&p.recs.all (Bh false)&&decide (p.recs.length≤1)
def FX:List UInt8:=[108,105,110,101]
def I2:List UInt8:=[118,111,108]
def Eo:List UInt8:=[108,111,99,107]
def DJ:List UInt8:=[116,104,114,101,97,100]
def BU:List UInt8:=[114,101,99,111,118,101,114]
def CG:List UInt8:=[97,108,119,97,121,115]
def Ir:List UInt8:=[114,101,103]
def EY (c:Cel):List UInt8:=c.name++(if c.n=0 then[]else[32,61,32]++Lib.itoa c.n)
def Jd:List Cel→List UInt8
 |[]=>[]
 |[c]=>EY c
 |c::d::l=>EY c++([44,32]++Jd (d::l))
def rowT (w:List UInt8) (l:List Cel):List UInt8:=w++(32::(Jd l++[59,10]))
def namesT:List (List UInt8)→List UInt8
 |[]=>[]
 |[c]=>c
 |c::d::l=>c++([44,32]++namesT (d::l))
def Rh (l:List (List UInt8)):List UInt8:=if l.isEmpty then[]else[32,32]++(Ir++(32::(namesT l++[59,10])))
def bodyT (l:List Stm):List UInt8:=match Dx l with
 |some b=>Bw [32,32] b
 |none=>[]
def Bf (head:List UInt8) (t:Thr):List UInt8:=head++([32,123,10]++(Rh t.regs++(bodyT t.body++[125,10])))
def threadT (t:Thr):List UInt8:=Bf (DJ++(32::t.name)) t
def claimT (c:Clm):List UInt8:=CG++(32::(Bi c.e++[59,10]))
def KN (w:List UInt8) (l:List Cel):List UInt8:=if l.isEmpty then[]else rowT w l
def Gv (p:Prg):List UInt8:=p.lines.flatMap (rowT FX)++(KN I2 p.vols++(KN Eo p.locks++(p.threads.flatMap threadT++(p.recs.flatMap (Bf BU)++p.claims.flatMap claimT))))
def Ek (p:Prg):List UInt8:=if BP p=true then Gv p else[]
def B8 (pl:Bool) (a b:Cel):Bool:=a.name==b.name&&a.n==b.n&&(!pl||a.pl==b.pl)
def B0 (pl:Bool) (a b:Thr):Bool:=a.name==b.name&&MX a.regs b.regs&&Jy pl a.body b.body&&(!pl||a.pl==b.pl)
def E7 (pl:Bool) (a b:Clm):Bool:=ET pl a.e b.e&&(!pl||a.pl==b.pl)
def Gw (pl:Bool) (p q:Prg):Bool:=Ad (Ad (B8 pl)) p.lines q.lines&&Ad (B8 pl) p.vols q.vols&&Ad (B8 pl) p.locks q.locks&&Ad (B0 pl) p.threads q.threads&&Ad (B0 pl) p.recs q.recs&&Ad (E7 pl) p.claims q.claims
def bareCel (c:Cel):Cel:={c with pl:=0}
def Br (t:Thr):Thr:={t with body:=t.body.map bareS,pl:=0}
def DR (c:Clm):Clm:=⟨c.e.map bareN,0⟩
def Cm (p:Prg):Prg:=⟨p.lines.map (·.map bareCel),p.vols.map bareCel,p.locks.map bareCel,p.threads.map Br,p.recs.map Br,p.claims.map DR⟩
def numAt (L:List Tok) (i:Nat):Option Int:=match L[i]? with
 |some t=>if t.kind=2 then some t.n else none
 |none=>none
def Fj (num:Bool) (L:List Tok) (i:Nat):RS Cel:=(BW L i).bind fun s j=>
 if num=true∧isB L j [61]=true then(match numAt L (j+1)with
  |some n=>.ok ⟨s,n,AT L i⟩ (j+2)
  |none=>badR L (j+1) 5)
 else .ok ⟨s,0,AT L i⟩ j
def Bc (num:Bool) (L:List Tok):Nat→Nat→Option (RS (List Cel))
 |0,_=>none
 |f+1,i=>RS.obind (some (Fj num L i)) fun c j=>
  if isB L j [44]=true then RS.obind (Bc num L f (j+1)) fun r k=>some (.ok (c::r) k)
  else RS.obind (some (Bg L j [59])) fun _ k=>some (.ok [c] k)
def Fo (L:List Tok) (f i opn:Nat):Option (RS (List Stm)):=RS.obind (Ci L f i 0 0) fun b j=>RS.obind (some (Bg L j [125])) fun _ k=>
 if 40<b.count then some (.bad 2 (AT L opn))else some (.ok b.flat k)
def GM (L:List Tok) (f i:Nat):Option (RS (List (List UInt8))):=if isB L i Ir=true then RS.obind (Bc false L f (i+1)) fun l k=>some (.ok (l.map (·.name)) k)else some (.ok [] i)
def IJ (L:List Tok) (f i:Nat) (name:List UInt8) (pl:Int):Option (RS Thr):=RS.obind (some (Bg L i [123])) fun _ j=>RS.obind (GM L f j) fun rs k=>RS.obind (Fo L f k i) fun b m=>some (.ok ⟨name,rs,b,pl⟩ m)
def E8 (L:List Tok) (i:Nat) (pl:Int):RS Clm:=(exprP L i).bind fun e j=>(Bg L j [59]).bind fun _ k=>.ok ⟨e,pl⟩ k
def Bj {α:Type} (L:List Tok) (kw:List UInt8) (p:Nat→Option (RS α)):Nat→Nat→Option (RS (List α))
 |0,_=>none
 |f+1,i=>if isB L i kw=true then RS.obind (p i) fun a j=>RS.obind (Bj L kw p f j) fun r k=>some (.ok (a::r) k)else some (.ok [] i)
def OB (L:List Tok) (f i:Nat):Option (RS (List (List Cel))):=Bj L FX (fun i=>Bc true L f (i+1)) f i
def Ri (L:List Tok) (f i:Nat):Option (RS (List (List Cel))):=Bj L I2 (fun i=>Bc true L f (i+1)) f i
def OC (L:List Tok) (f i:Nat):Option (RS (List (List Cel))):=Bj L Eo (fun i=>Bc false L f (i+1)) f i
def DT (L:List Tok) (f i:Nat):Option (RS Thr):=RS.obind (some (BW L (i+1))) fun s j=>IJ L f j s (AT L (i+1))
def Je (L:List Tok) (f i:Nat):Option (RS (List Thr)):=Bj L DJ (DT L f) f i
def KP (L:List Tok) (f i:Nat):Option (RS (List Thr)):=if isB L i BU=true then RS.obind (IJ L f (i+1) [] (AT L i)) fun t j=>some (.ok [t] j)else some (.ok [] i)
def LQ (L:List Tok) (f i:Nat):Option (RS (List Clm)):=Bj L CG (fun i=>some (E8 L (i+1) (AT L i))) f i
def L9 (L:List Tok) (i:Nat) (p:Prg):RS Prg:=if i<L.length then badR L i 5 else .ok p i
def GX (L:List Tok) (f:Nat):Option (RS Prg):=
 RS.obind (OB L f 0) fun ls i1=>RS.obind (Ri L f i1) fun vs i2=>RS.obind (OC L f i2) fun ks i3=>RS.obind (Je L f i3) fun ts i4=>RS.obind (KP L f i4) fun rs i5=>RS.obind (LQ L f i5) fun cs i6=>
  some (L9 L i6 ⟨ls,vs.flatten,ks.flatten,ts,rs,cs⟩)
structure ParsedP where
 p:Prg
 err:Int
 pl:Int
def Rj:RS Prg→ParsedP
 |.ok p _=>⟨p,0,0⟩
 |.bad e pl=>⟨noPg,e,pl⟩
def Bm (s:List UInt8):ParsedP:=if 4000<s.length then⟨noPg,2,4000⟩
 else if(AS s 0).err=0 then Rj ((GX (AS s 0).toks ((AS s 0).toks.length+1)).getD (.bad 0 0))else⟨noPg,(AS s 0).err,(AS s 0).pl⟩
def DV (c:Cel):List Tok:=wd c.name::(if c.n=0 then[]else[sg 61,⟨2,Lib.itoa c.n,c.n,0⟩])
def Eg:List Cel→List Tok
 |[]=>[]
 |[c]=>DV c
 |c::d::l=>DV c++(sg 44::Eg (d::l))
def Ft (w:List UInt8) (l:List Cel):List Tok:=wd w::(Eg l++[sg 59])
def Jg (w:List UInt8) (l:List Cel):List Tok:=if l.isEmpty then[]else Ft w l
def Rk (l:List (List UInt8)):List Tok:=Eg (l.map fun s=>⟨s,0,0⟩)
def NK (l:List (List UInt8)):List Tok:=if l.isEmpty then[]else wd Ir::(Rk l++[sg 59])
def FA (l:List Stm):List Tok:=match Dx l with
 |some b=>Dn b
 |none=>[]
def Jh (t:Thr):List Tok:=sg 123::(NK t.regs++(FA t.body++[sg 125]))
def FC (t:Thr):List Tok:=wd DJ::(wd t.name::Jh t)
def JA (t:Thr):List Tok:=wd BU::Jh t
def Dt (c:Clm):List Tok:=wd CG::(Hn c.e++[sg 59])
def QK (p:Prg):List Tok:=p.lines.flatMap (Ft FX)++(Jg I2 p.vols++(Jg Eo p.locks++(p.threads.flatMap FC++(p.recs.flatMap JA++p.claims.flatMap Dt))))
theorem LR {most:Int} {c:Cel} (h:Aw most c=true):nameB c.name=true∧0≤c.n∧c.n≤most∧0≤c.pl∧c.pl≤4000:=by
 unfold Aw Le at h;simp only[Bool.and_eq_true,decide_eq_true_eq]at h;exact⟨h.1.1.1,h.1.1.2,h.1.2,h.2.1,h.2.2⟩
theorem KF {c:Cel} (h:Aw 0 c=true):Aw most32 c=true:=by
 unfold Aw at *;simp only[Bool.and_eq_true,decide_eq_true_eq]at *;exact⟨⟨h.1.1,by unfold most32;omega⟩,h.2⟩
theorem QBN {c:Cel} (h:Aw most32 c=true):Sc (EY c) (DV c):=by
 obtain⟨h1,h2,h3,_⟩:=LR h;unfold EY DV;split
 ·rw[List.append_nil];exact G9 h1
 ·exact(G9 h1).appS (QD.appS (QBG h2 h3)) (Kx _)
theorem Xl:∀l:List Cel,l.all (Aw most32)=true→Sc (Jd l) (Eg l)
 |[],_=>OA.sc
 |[c],h=>by
  simp only[List.all_cons,List.all_nil,Bool.and_true]at h;exact QBN h
 |c::d::l,h=>by
  rw[List.all_cons,Bool.and_eq_true]at h;exact(QBN h.1).appS (QG.appS (Xl (d::l) h.2)) (QEs _)
theorem Xm:Js [59,10] [sg 59]:=LO ((I9 (c:=59) (by simp)).app (EP (p:=[10]) (by decide))) rfl
theorem Wg {w:List UInt8} (hw:MM w=true) {l:List Cel} (h:l.all (Aw most32)=true):Js (rowT w l) (Ft w l):=by
 have h1:=(Xl l h).app Xm (QEt _);have h2:=(EP (p:=[32]) (by decide)).app h1;exact(KC hw).app h2 (Kx _)
theorem NL {α:Type} {f:α→List UInt8} {g:α→List Tok}:∀l:List α,(∀a∈l,Js (f a) (g a))→Js (l.flatMap f) (l.flatMap g)
 |[],_=>OA
 |a::l,h=>by
  rw[List.flatMap_cons,List.flatMap_cons];exact(h a (by simp)).app (NL l fun b hb=>h b (by simp[hb]))
theorem Xn {w:List UInt8} (hw:MM w=true) {l:List Cel} (h:l.all (Aw most32)=true):Js (KN w l) (Jg w l):=by
 unfold KN Jg;split
 ·exact OA
 ·exact Wg hw h
theorem QL:∀l:List (List UInt8),namesT l=Jd (l.map fun s=>⟨s,0,0⟩)
 |[]=>rfl
 |[c]=>by simp[namesT,Jd,EY]
 |c::d::l=>by
  have:=QL (d::l);simp only[List.map_cons]at this⊢;unfold namesT Jd;rw[this];simp[EY]
theorem U6 {l:List (List UInt8)} (h:l.all nameB=true):(l.map fun s=>(⟨s,0,0⟩:Cel)).all (Aw 0)=true:=by
 rw[List.all_map,List.all_eq_true]at *;intro s hs;have:=h s hs;simp[Aw,Le,this]
theorem QDT {l:List (List UInt8)} (h:l.all nameB=true):Js (Rh l) (NK l):=by
 unfold Rh NK Rk;split
 ·exact OA
 ·have h0:(l.map fun s=>(⟨s,0,0⟩:Cel)).all (Aw most32)=true:=by
   have:=U6 h;rw[List.all_eq_true]at *;exact fun c hc=>KF (this c hc)
  rw[QL];exact(EP (p:=[32,32]) (by decide)).app (Wg (w:=Ir) (by decide) h0)
theorem IY {named:Bool} {t:Thr} (h:Bh named t=true):(if named then nameB t.name else t.name.isEmpty)=true∧0≤t.pl∧t.pl≤4000∧CH t.body=true∧t.regs.all nameB=true:=by
 unfold Bh Le at h;simp only[Bool.and_eq_true,decide_eq_true_eq]at h;exact⟨h.1.1.1,h.1.1.2.1,h.1.1.2.2,h.1.2,h.2⟩
theorem QDU {l:List Stm} (h:CH l=true):Js (bodyT l) (FA l):=by
 obtain⟨b,rfl,g1,g2,g3,g4,g5⟩:=DX h;unfold bodyT FA;rw[g5];exact QBH b [32,32] g1 (by decide)
theorem QBO {head:List UInt8} {T:List Tok} {named:Bool} {t:Thr} (hh:Sc head T) (h:Bh named t=true):Js (Bf head t) (T++Jh t):=by
 obtain⟨_,_,_,h4,h5⟩:=IY h;have nl:Js [10] []:=EP (by decide);have ob:Js [32,123,10] [sg 123]:=((EP (p:=[32]) (by decide)).app (I9 (c:=123) (by simp))).app nl;have cb:Js [125,10] [sg 125]:=(I9 (c:=125) (by simp)).app nl;exact hh.app (ob.app ((QDT h5).app ((QDU h4).app cb))) (Kx _)
theorem ZN {t:Thr} (h:Bh true t=true):Js (threadT t) (FC t):=by
 have h1:=(IY h).1;exact QBO (T:=[wd DJ,wd t.name]) ((KC (l:=DJ) (by decide)).appS (QH (G9 h1)) (Kx _)) h
theorem QEu {t:Thr} (h:Bh false t=true):Js (Bf BU t) (JA t):=QBO (T:=[wd BU]) (KC (l:=BU) (by decide)) h
theorem QBP {c:Clm} (h:Ef c=true):Js (claimT c) (Dt c):=by
 unfold Ef at h;rw[Bool.and_eq_true]at h;have h1:=(LN h.2).app Xm (QEt _);have h2:=(EP (p:=[32]) (by decide)).app h1;exact(KC (l:=CG) (by decide)).app h2 (Kx _)
theorem Kz {p:Prg} (h:BP p=true):p.lines.all EC=true∧p.claims.all Ef=true∧p.vols.all (Aw most32)=true∧p.locks.all (Aw 0)=true∧p.threads.all (Bh true)=true∧p.recs.all (Bh false)=true∧p.recs.length≤1:=by
 unfold BP at h;simp only[Bool.and_eq_true,decide_eq_true_eq]at h;exact⟨h.1.1.1.1.1.1,h.1.1.1.1.1.2,h.1.1.1.1.2,h.1.1.1.2,h.1.1.2,h.1.2,h.2⟩
theorem QDV {p:Prg} (h:BP p=true):Js (Gv p) (QK p):=by
 obtain⟨h1,h2,h3,h4,h5,h6,_⟩:=Kz h;rw[List.all_eq_true]at h1 h2 h5 h6;have h4':p.locks.all (Aw most32)=true:=by
  rw[List.all_eq_true]at *;exact fun c hc=>KF (h4 c hc)
 refine(NL _ fun l hl=>?_).app ((Xn (by decide) h3).app ((Xn (by decide) h4').app ((NL _ fun t ht=>ZN (h5 t ht)).app ((NL _ fun t ht=>QEu (h6 t ht)).app (NL _ fun c hc=>QBP (h2 c hc))))));have:=h1 l hl;unfold EC at this;rw[Bool.and_eq_true]at this;exact Wg (by decide) this.2
theorem ZO {p:Prg} (h:BP p=true):∃T,T.map Tok.bare=QK p∧AS (Ek p) 0=.fine T:=by
 obtain⟨T,h1,h2⟩:=QDV h [] 0;refine⟨T,h1,?_⟩;unfold Ek;rw[if_pos h];rw[List.append_nil,JM,O0,List.append_nil]at h2;exact h2
theorem Aj.le {L:List Tok} {i:Nat} {t:Tok} {T:List Tok} (h:Aj L i (t::T)):i<L.length:=by
 obtain⟨t',h1,_⟩:=h.head;exact(List.getElem?_eq_some_iff.1 h1).1
def Fv (ks:List (List UInt8)) (R:List Tok):Prop:=R=[]∨∃k∈ks,∃T,R=wd k::T
theorem Ji {ks:List (List UInt8)} {R:List Tok} (h:Fv ks R) {kw:List UInt8} (hk:kw∉ks) {L:List Tok} {i:Nat} (hF:Aj L i R):isB L i kw=false:=by
 rcases h with rfl|⟨k,hks,T,rfl⟩
 ·exact Xb hF _
 ·rw[Bo hF];show(((1:Int)==1||(1:Int)==3)&&(k==kw))=false;have:(k==kw)=false:=beq_eq_false_iff_ne.2 (fun e=>hk (e▸hks));rw[this];rfl
theorem Xo {L:List Tok} {i:Nat} {k:List UInt8} {R:List Tok} (hF:Aj L i (wd k::R)):isB L i k=true:=by
 rw[Bo hF];show(((1:Int)==1||(1:Int)==3)&&(k==k))=true;simp
theorem LS {ks:List (List UInt8)} {S R:List Tok} (h1:Fv ks S) (h2:Fv ks R):Fv ks (S++R):=by
 rcases h1 with rfl|⟨k,hk,T,rfl⟩
 ·exact h2
 ·exact .inr ⟨k,hk,T++R,rfl⟩
theorem Iu {α:Type} {ks:List (List UInt8)} {g:α→List Tok} {k:List UInt8} (hk:k∈ks) (hg:∀a,∃T,g a=wd k::T) (l:List α):Fv ks (l.flatMap g):=by
 cases l with
 |nil=>exact .inl rfl
 |cons a l=>
  obtain⟨T,h⟩:=hg a;exact .inr ⟨k,hk,T++l.flatMap g,by rw[List.flatMap_cons,h];rfl⟩
theorem U7 {num:Bool} {c:Cel} (hc:Aw most32 c=true) (hn:num=true∨c.n=0) {L:List Tok} {i:Nat} {x:UInt8} {R:List Tok} (hx:x=44∨x=59) (hF:Aj L i (DV c++sg x::R)):
  ∃c',Fj num L i=.ok c' (i+(DV c).length)∧bareCel c'=bareCel c∧Aj L (i+(DV c).length) (sg x::R):=by
 obtain⟨h1,_⟩:=LR hc;have hend:=hF.app;by_cases h0:c.n=0
 ·have ht:DV c=[wd c.name]:=by unfold DV;rw[if_pos h0]
  rw[ht]at hF hend⊢;obtain⟨e1,hF1⟩:=Ha h1 hF;refine⟨⟨c.name,0,AT L i⟩,?_,by unfold bareCel;simp[h0],hend⟩;unfold Fj;rw[e1,RS.bind_ok];have hq:isB L ((i+1:Nat):Int) [61]=false:=by
   rw[Bo hF1];rcases hx with rfl|rfl<;>rfl
  rw[if_neg (by rw[hq];simp)];rfl
 ·have ht:DV c=[wd c.name,sg 61,⟨2,Lib.itoa c.n,c.n,0⟩]:=by unfold DV;rw[if_neg h0]
  have hnum:num=true:=by rcases hn with h|h;exact h;exact absurd h h0
  rw[ht]at hF hend⊢;obtain⟨e1,hF1⟩:=Ha h1 hF;have hq:isB L ((i+1:Nat):Int) [61]=true:=by rw[Bo hF1];rfl
  obtain⟨_,_,_,hF2⟩:=Aj.head hF1;obtain⟨t',g1,g2,_⟩:=Aj.head hF2;have hna:numAt L (i+1+1)=some c.n:=by
   unfold numAt;rw[g1];have hk:t'.kind=2:=congrArg Tok.kind g2;have hv:t'.n=c.n:=congrArg Tok.n g2;simp[hk,hv]
  refine⟨⟨c.name,c.n,AT L i⟩,?_,by unfold bareCel;rfl,hend⟩;unfold Fj;rw[e1,RS.bind_ok,if_pos ⟨hnum,hq⟩,hna];rfl
theorem Rl {num:Bool}:∀(l:List Cel),l≠[]→l.all (Aw most32)=true→(num=true∨∀c∈l,c.n=0)→∀(L:List Tok) (i f:Nat) (R:List Tok),Aj L i (Eg l++sg 59::R)→L.length+1≤f+i→
  ∃l',Bc num L f i=some (.ok l' (i+(Eg l).length+1))∧l'.map bareCel=l.map bareCel∧Aj L (i+(Eg l).length+1) R
 |[],h,_,_,_,_,_,_,_,_=>absurd rfl h
 |[c],_,hc,hn,L,i,f,R,hF,hf=>by
  simp only[List.all_cons,List.all_nil,Bool.and_true]at hc;unfold Eg at hF⊢;obtain⟨c',e1,e2,hF1⟩:=U7 (num:=num) hc (hn.imp id fun h=>h c (by simp)) (.inr rfl) hF;obtain⟨e3,hF2⟩:=FR hF1;have hlt:=hF1.le;cases f with
  |zero=>omega
  |succ f=>
   refine⟨[c'],?_,by simp[e2],hF2⟩;unfold Bc;rw[e1,RS.obind_ok];have hq:isB L ((i+(DV c).length:Nat):Int) [44]=false:=by rw[Bo hF1];rfl
   rw[if_neg (by rw[hq];simp),e3,RS.obind_ok]
 |c::d::l,_,hc,hn,L,i,f,R,hF,hf=>by
  rw[List.all_cons,Bool.and_eq_true]at hc;have ht:Eg (c::d::l)=DV c++(sg 44::Eg (d::l)):=rfl;rw[ht]at hF⊢;rw[List.append_assoc,List.cons_append]at hF;obtain⟨c',e1,e2,hF1⟩:=U7 (num:=num) hc.1 (hn.imp id fun h=>h c (by simp)) (.inl rfl) hF;have hlt:=hF1.le;obtain⟨_,_,_,hF2⟩:=Aj.head hF1;cases f with
  |zero=>omega
  |succ f=>
   have hcl:0<(DV c).length:=by unfold DV;simp
   obtain⟨l',r1,r2,r3⟩:=Rl (d::l) (by simp) hc.2 (hn.imp id fun h=>fun x hx=>h x (by simp[hx])) L (i+(DV c).length+1) f R hF2 (by omega);have hj:i+(DV c).length+1+(Eg (d::l)).length+1=i+(DV c++(sg 44::Eg (d::l))).length+1:=by simp only[List.length_append,List.length_cons];omega
   rw[hj]at r1 r3;refine⟨c'::l',?_,by rw[List.map_cons,List.map_cons,e2,r2],r3⟩;unfold Bc;rw[e1,RS.obind_ok];have hq:isB L ((i+(DV c).length:Nat):Int) [44]=true:=by rw[Bo hF1];rfl
   rw[if_pos hq,r1,RS.obind_ok]
theorem LU {num:Bool} {w:List UInt8} {l:List Cel} (hl:l≠[]) (hc:l.all (Aw most32)=true) (hn:num=true∨∀c∈l,c.n=0) {L:List Tok} {i f:Nat} {R:List Tok} (hF:Aj L i (Ft w l++R)) (hf:L.length+1≤f+i):
  isB L i w=true∧∃l' j,Bc num L f (i+1)=some (.ok l' j)∧l'.map bareCel=l.map bareCel∧Aj L j R∧i<j∧j≤L.length:=by
 unfold Ft at hF;rw[List.cons_append,List.append_assoc]at hF;have hk:=Xo hF;obtain⟨_,_,_,hF1⟩:=Aj.head hF;obtain⟨l',r1,r2,r3⟩:=Rl (num:=num) l hl hc hn L (i+1) f R hF1 (by omega);have hlt:=(Aj.app hF1).le;exact⟨hk,l',_,r1,r2,r3,by omega,by omega⟩
theorem Gy {α β:Type} {kw:List UInt8} {p:Nat→Option (RS α)} {g:α→β} {toks:α→List Tok} {L:List Tok}:∀(l:List α),(∀a∈l,∀i R,Aj L i (toks a++R)→i≤L.length→isB L i kw=true∧∃a' j,p i=some (.ok a' j)∧g a'=g a∧Aj L j R∧i<j∧j≤L.length)→
  ∀(i f:Nat) (R:List Tok),Aj L i (l.flatMap toks++R)→(∀j,Aj L j R→isB L j kw=false)→L.length+1≤f+i→i≤L.length→∃l' j,Bj L kw p f i=some (.ok l' j)∧l'.map g=l.map g∧Aj L j R∧i≤j∧j≤L.length
 |[],_,i,f,R,hF,hR,hf,hi=>by
  cases f with
  |zero=>omega
  |succ f=>
   refine⟨[],i,?_,rfl,hF,Nat.le_refl _,hi⟩;unfold Bj;rw[if_neg (by rw[hR i hF];simp)]
 |a::l,h,i,f,R,hF,hR,hf,hi=>by
  rw[List.flatMap_cons,List.append_assoc]at hF;obtain⟨hk,a',j,h1,h2,h3,h4,h5⟩:=h a (by simp) i _ hF hi;cases f with
  |zero=>omega
  |succ f=>
   obtain⟨l',k,r1,r2,r3,r4,r5⟩:=Gy l (fun b hb=>h b (by simp[hb])) j f R h3 hR (by omega) h5;refine⟨a'::l',k,?_,by rw[List.map_cons,List.map_cons,h2,r2],r3,by omega,r5⟩;unfold Bj;rw[if_pos hk,h1,RS.obind_ok,r1,RS.obind_ok]
theorem QEv:∀k:Fin 15,2≤k.1→(CO.getD k.1 []==Ir)=false:=by decide
theorem QBQ {s:List UInt8} (h:nameB s=true):(s==Ir)=false:=by
 cases hq:s==Ir with
 |false=>rfl
 |true=>rw[eq_of_beq hq]at h;revert h;decide
theorem U8 {x:Stm} (h:Dy x=true):∃u T,Ho x=wd u::T∧(u==Ir)=false:=by
 obtain⟨k,hk,h1,h2⟩:=Hk h;obtain⟨_,_,_,hr,_⟩:=J5 hk h;have kwr:∀k:Nat,2≤k→k≤14→(Jr (k:Nat)==Ir)=false:=fun k h1 h2=>by
  have:=QEv ⟨k,by omega⟩ h1;simpa[Jr]using this
 unfold Ho;rw[hk];have hkk:k=1∨k=2∨k=3∨k=4∨(k=11∨k=14)∨k=12∨(k=7∨k=8∨k=13)∨(k=5∨k=6∨k=9∨k=10):=by omega
 rcases hkk with rfl|rfl|rfl|rfl|h|rfl|h|h
 ·exact⟨_,_,rfl,QBQ hr⟩
 ·exact⟨_,_,rfl,kwr 2 (by omega) (by omega)⟩
 ·exact⟨_,_,rfl,kwr 3 (by omega) (by omega)⟩
 ·exact⟨_,_,rfl,kwr 4 (by omega) (by omega)⟩
 ·rw[if_neg (by omega),if_neg (by omega),if_neg (by omega),if_neg (by omega),if_pos (by omega)];exact⟨_,_,rfl,kwr k (by omega) h2⟩
 ·exact⟨_,_,rfl,kwr 12 (by omega) (by omega)⟩
 ·rw[if_neg (by omega),if_neg (by omega),if_neg (by omega),if_neg (by omega),if_neg (by omega),if_neg (by omega),if_pos (by omega)];exact⟨_,_,rfl,kwr k (by omega) h2⟩
 ·rw[if_neg (by omega),if_neg (by omega),if_neg (by omega),if_neg (by omega),if_neg (by omega),if_neg (by omega),if_neg (by omega)];exact⟨_,_,rfl,kwr k (by omega) h2⟩
theorem ZP {l:List Stm} (h:CH l=true) {L:List Tok} {i f opn:Nat} {R:List Tok} (hF:Aj L i (FA l++sg 125::R)) (hi:i≤L.length) (hf:L.length+1≤f+i):
  ∃l',Fo L f i opn=some (.ok l' (i+(FA l).length+1))∧l'.map bareS=l.map bareS∧Aj L (i+(FA l).length+1) R∧i+(FA l).length+1≤L.length:=by
 obtain⟨b,rfl,g1,g2,g3,g4,g5⟩:=DX h;unfold FA at hF⊢;rw[g5]at hF⊢;simp only at hF⊢;obtain⟨b',f',q,r⟩:=QBL b L i 0 0 R g1 g3 (by omega) hF;obtain⟨rt,ht⟩:=Nv L f i 0 0 hi (by omega);have e:rt=.ok b' (i+(Dn b).length):=by
  have h1:=Il L (Nat.le_max_left f f') _ _ _ _ ht;have h2:=Il L (Nat.le_max_right f f') _ _ _ _ r;rw[h1]at h2;exact Option.some.inj h2
 subst e;have hend:=Aj.app hF;obtain⟨e3,hF3⟩:=FR hend;have hlt:=hend.le;refine⟨b'.flat,?_,by rw[←Iq,←Iq,q],hF3,by omega⟩;unfold Fo;rw[ht,RS.obind_ok,e3,RS.obind_ok,if_neg (by rw[L8 q];omega)]
theorem ZQ (l:List (List UInt8)) (m:List Cel) (h:m.map bareCel=(l.map fun s=>(⟨s,0,0⟩:Cel)).map bareCel):m.map (·.name)=l:=by
 have h1:=congrArg (List.map Cel.name) h;simpa[List.map_map,Function.comp_def,bareCel]using h1
theorem U9 {named:Bool} {t:Thr} (h:Bh named t=true) {L:List Tok} {i f:Nat} {R:List Tok} (hF:Aj L i (Jh t++R)) (hf:L.length+1≤f+i) (name:List UInt8) (pl:Int) (hn:name=t.name):
  ∃t' j,IJ L f i name pl=some (.ok t' j)∧Br t'=Br t∧Aj L j R∧i<j∧j≤L.length:=by
 obtain⟨_,_,_,h4,h5⟩:=IY h;unfold Jh at hF;rw[List.cons_append,List.append_assoc,List.append_assoc]at hF;obtain⟨e1,hF1⟩:=FR hF;have hlt:=hF.le;have hregs:∃k,GM L f (i+1)=some (.ok t.regs k)∧Aj L k (FA t.body++([sg 125]++R))∧i+1≤k∧k≤L.length:=by
  unfold NK at hF1;by_cases he:t.regs.isEmpty=true
  ·rw[if_pos he,List.nil_append]at hF1;have hq:isB L ((i+1:Nat):Int) Ir=false:=by
    obtain⟨b,hb,g1,g2,g3,g4,g5⟩:=DX h4;unfold FA at hF1;rw[g5]at hF1;simp only at hF1;cases b with
    |nil=>rw[Bo (t:=sg 125) hF1];rfl
    |cons s b1 e1 r1=>
     obtain⟨_,_,_,_,g6,_⟩:=Gt.1 g1;obtain⟨u,T,w1,w2⟩:=U8 g6;unfold Dn at hF1;rw[w1]at hF1;simp only[List.cons_append]at hF1;rw[Bo hF1];show(((1:Int)==1||(1:Int)==3)&&(u==Ir))=false;rw[w2];rfl
   refine⟨i+1,?_,hF1,Nat.le_refl _,by omega⟩;unfold GM;rw[if_neg (by rw[hq];simp),List.isEmpty_iff.1 he]
  ·rw[if_neg he]at hF1;have hne:(t.regs.map fun s=>(⟨s,0,0⟩:Cel))≠[]:=by
    intro e;apply he;rw[List.isEmpty_iff];simpa using e
   have h0:(t.regs.map fun s=>(⟨s,0,0⟩:Cel)).all (Aw most32)=true:=by
    have:=U6 h5;rw[List.all_eq_true]at *;exact fun c hc=>KF (this c hc)
   obtain⟨hk,l',j,r1,r2,r3,r4,r5⟩:=LU (num:=false) (w:=Ir) hne h0 (.inr (by simp)) (i:=i+1) (f:=f) (R:=FA t.body++([sg 125]++R)) hF1 (by omega);refine⟨j,?_,r3,by omega,r5⟩;unfold GM;rw[if_pos hk,r1,RS.obind_ok,ZQ _ _ r2]
 obtain⟨k,r1,r2,r3,r4⟩:=hregs;obtain⟨l',s1,s2,s3,s4⟩:=ZP h4 (opn:=i) (f:=f) r2 r4 (by omega);refine⟨⟨name,t.regs,l',pl⟩,_,?_,?_,s3,by omega,s4⟩
 ·unfold IJ;rw[e1,RS.obind_ok,r1,RS.obind_ok,s1,RS.obind_ok]
 ·unfold Br;rw[hn];simp[s2]
def GZ {α:Type} (n:Nat) (r:RS α):Prop:=∀e p,r=.bad e p→0≤p∧p≤n
theorem An {α:Type} (n:Nat) (a:α) (j:Nat):GZ n (RS.ok a j):=fun e p h=>by cases h
theorem EZ {α:Type} {n:Nat} {L:List Tok} (h:TF n L) (i:Nat) (er:Int):GZ n (badR L i er:RS α):=by
 intro e p hp;unfold badR at hp;simp only[RS.bad.injEq]at hp;rw[←hp.2];exact Kr (fun t ht=>(h t ht).1) i
theorem CM {n:Nat} {L:List Tok} (h:TF n L) (i:Nat) (s:List UInt8):GZ n (Bg L i s):=by
 unfold Bg;split
 ·exact An _ _ _
 ·exact EZ h _ _
theorem D7 {n:Nat} {L:List Tok} (h:TF n L) (i:Nat):GZ n (BW L i):=by
 unfold BW;split
 ·exact An _ _ _
 ·exact EZ h _ _
theorem TQ {n:Nat} {L:List Tok} (h:TF n L) (i:Nat):GZ n (Dc L i):=by
 unfold Dc
 repeat' split
 ·exact An _ _ _
 ·exact EZ h _ _
 ·exact EZ h _ _
 ·exact EZ h _ _
theorem GN {n:Nat} {L:List Tok} (h:TF n L) (i:Nat):GZ n (exprP L i):=by
 have hpl:=Kr (n:=n) (fun t ht=>(h t ht).1);intro e p hp;unfold exprP at hp;split at hp
 ·cases hp
 ·simp only[RS.bad.injEq]at hp;rw[←hp.2,IS];cases hq:F9 L i with
  |bad e j=>exact hpl j
  |ok x j=>
   by_cases hd:12<x.deep
   ·rw[L0 hd];exact hpl _
   ·by_cases hs:40<x.size
    ·rw[Ns hd hs];exact hpl _
    ·rw[Me hd hs];exact⟨Int.le_refl _,by show(0:Int)≤n;omega⟩
theorem GZ.bind {α β:Type} {n:Nat} {r:RS α} {k:α→Nat→RS β} (h:GZ n r) (hk:∀a j,GZ n (k a j)):GZ n (r.bind k):=by
 cases r with
 |ok a j=>exact hk a j
 |bad e p=>intro e' p' hp;simp only[RS.bind_bad,RS.bad.injEq]at hp;rw[←hp.2];exact h e p rfl
theorem TR {n:Nat} {L:List Tok} (h:TF n L) (k:Nat) (pl:Int) (i:Nat):GZ n (DC L k pl i):=by
 unfold DC
 repeat' split
 ·exact(D7 h i).bind fun _ j=>(CM h j _).bind fun _ j=>(GN h j).bind fun _ j=>An _ _ _
 ·exact(D7 h i).bind fun _ j=>(CM h j _).bind fun _ j=>(D7 h j).bind fun _ j=>An _ _ _
 ·exact(D7 h i).bind fun _ j=>(CM h j _).bind fun _ j=>(GN h j).bind fun _ j=>An _ _ _
 ·exact(D7 h i).bind fun _ j=>(CM h j _).bind fun _ j=>(D7 h j).bind fun _ j=>(CM h j _).bind fun _ j=>(GN h j).bind fun _ j=>(CM h j _).bind fun _ j=>(GN h j).bind fun _ j=>An _ _ _
 ·exact(D7 h i).bind fun _ j=>An _ _ _
 ·exact(GN h i).bind fun _ j=>An _ _ _
 ·exact(TQ h i).bind fun _ j=>An _ _ _
 ·exact An _ _ _
def DK {α:Type} (n:Nat) (o:Option (RS α)):Prop:=∀r,o=some r→GZ n r
theorem DK.obind {α β:Type} {n:Nat} {o:Option (RS α)} {k:α→Nat→Option (RS β)} (h:DK n o) (hk:∀a j,DK n (k a j)):DK n (RS.obind o k):=by
 intro r hr;rcases RS.obind_some hr with⟨a,j,h1,h2⟩|⟨e,p,h1,rfl⟩
 ·exact hk a j r h2
 ·intro e' p' hp;simp only[RS.bad.injEq]at hp;rw[←hp.2];exact h _ h1 e p rfl
theorem AY {α:Type} {n:Nat} {r:RS α} (h:GZ n r):DK n (some r):=fun r' hr=>by rw[←Option.some.inj hr];exact h
theorem NP {n:Nat} {L:List Tok} (h:TF n L) {row:CU} (hr:∀i d l,DK n (row i d l)) (i d l:Nat):DK n (Bz row L i d l):=by
 unfold Bz;split
 ·exact AY (EZ h _ _)
 ·exact(AY (CM h _ _)).obind fun _ j=>(hr _ _ _).obind fun _ j=>(AY (CM h _ _)).obind fun _ j=>AY (An _ _ _)
theorem VB {n:Nat} {L:List Tok} (h:TF n L) {row:CU} (hr:∀i d l,DK n (row i d l)) (k i d l:Nat):DK n (Df row L k i d l):=by
 unfold Df;split
 ·exact NP h hr _ _ _
 ·exact AY (An _ _ _)
theorem Wj {n:Nat} {L:List Tok} (h:TF n L) {row:CU} (hr:∀i d l,DK n (row i d l)) (i d l:Nat):DK n (GO row L i d l):=by
 unfold GO;split
 ·exact AY (EZ h _ _)
 ·refine(AY (TR h _ _ _)).obind fun s j=>?_
  split
  ·exact(AY (CM h _ _)).obind fun _ j=>AY (An _ _ _)
  ·exact(NP h hr _ _ _).obind fun _ j=>(VB h hr _ _ _ _).obind fun _ j=>AY (An _ _ _)
theorem Wl {n:Nat} {L:List Tok} (h:TF n L):∀f i d l,DK n (Ci L f i d l):=by
 intro f
 induction f with
 |zero=>intro i d l r hr;simp[Ci]at hr
 |succ f ih=>
  intro i d l;rw[DI];split
  ·exact AY (An _ _ _)
  ·exact(Wj h ih _ _ _).obind fun _ j=>(ih _ _ _).obind fun _ j=>AY (An _ _ _)
end Go.Proofs.YthfkpalfopdmhaaGreatDoor
