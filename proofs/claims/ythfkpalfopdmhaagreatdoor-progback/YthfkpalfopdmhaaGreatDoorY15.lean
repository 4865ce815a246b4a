/- Texts of the walk, packed. -/
import Derived.Test.YthfkpalfopdmhaaGreatDoorY14
import Derived.Test.YthfkpalfopdmhaaGreatDoorY08
import Derived.Lib.Builder
import Derived.Test.YthfkpalfopdmhaaGreatDoorY00
namespace Go.Proofs.YthfkpalfopdmhaaGreatDoor
open Go.RowKit
structure Sv where
 s:Stm
 vE:Value
 vF:Value
def Be (x:Sv):List Value:=[.int .i64 x.s.kind,.string ⟨x.s.reg.toArray⟩,.string ⟨x.s.name.toArray⟩,x.vE,x.vF,.int .i64 x.s.n,.int .i64 x.s.body,.int .i64 x.s.els,.int .i64 x.s.pl]
def CC (K:List Sv):List Value:=K.flatMap Be
theorem J3 (K:List Sv):(CC K).length=K.length*9:=by
 induction K with
 |nil=>rfl
 |cons x K ih=>unfold CC at *;rw[List.flatMap_cons,List.length_append,ih];simp[Be];omega
theorem E6 (K M:List Sv):CC (K++M)=CC K++CC M:=by unfold CC;rw[List.flatMap_append]
structure AG (P:Nat→Prop) (w w':World):Prop where
 os:w'.os=w.os
 tape:w'.tape=w.tape
 output:w'.output=w.output
 size:w.heap.size≤w'.heap.size
 block:∀k,k<w.heap.size→¬P k→w'.heap[k]?=w.heap[k]?
theorem AG.refl (P:Nat→Prop) (w:World):AG P w w:=⟨rfl,rfl,rfl,Nat.le_refl _,fun _ _ _=>rfl⟩
theorem AG.trans {P Q R:Nat→Prop} {w w1 w2:World} (h:AG P w w1) (k:AG Q w1 w2) (hP:∀k,k<w.heap.size→P k→R k) (hQ:∀k,k<w.heap.size→Q k→R k):AG R w w2:=
 ⟨k.os.trans h.os,k.tape.trans h.tape,k.output.trans h.output,Nat.le_trans h.size k.size,fun i hi hg=>(k.block i (Nat.lt_of_lt_of_le hi h.size) (fun q=>hg (hQ i hi q))).trans (h.block i hi (fun p=>hg (hP i hi p)))⟩
theorem AG.of {P:Nat→Prop} {w w':World} (h:Below w.heap.size w w'):AG P w w':=⟨h.os,h.tape,h.output,h.size,fun k hk _=>h.block k hk⟩
theorem AG.mono {P Q:Nat→Prop} {w w':World} (h:AG P w w') (hP:∀k,k<w.heap.size→P k→Q k):AG Q w w':=⟨h.os,h.tape,h.output,h.size,fun k hk hq=>h.block k hk (fun p=>hq (hP k hk p))⟩
theorem AG.below {P:Nat→Prop} {w w':World} (h:AG P w w') {B:Nat} (hB:∀k,k<B→¬P k) (hw:B≤w.heap.size):Below B w w':=
 ⟨h.os,h.tape,h.output,h.size,fun k hk=>h.block k (by omega) (hB k hk)⟩
theorem AG.set {g j:Nat} {w:World} {v:Value}:AG (fun k=>k=g) w (w.setCell ⟨g,j,none⟩ v):=
 ⟨rfl,rfl,rfl,by simp,fun k _ hg=>Below.heap_setCell _ _ _ _ hg⟩
structure CY (B:Nat) (w:World) (v:Value) (l:List Nod):Prop where
 rd:BA w v l
 blk:∀q,v.ownBlock=some q→B≤q∧∃cs,w.heap[q]?=some (.cells cs 46 (0,0))
theorem CY.keep {B:Nat} {P:Nat→Prop} {w w':World} {v:Value} {l:List Nod} (h:CY B w v l) (hk:AG P w w') (hP:∀q cs fr,w.heap[q]?=some (.cells cs 46 fr)→¬P q):CY B w' v l:=by
 obtain⟨⟨A,c,hv,h1,h2,h3⟩,h4⟩:=h
 subst hv
 have key:∀q,(Value.slice A l.length c).ownBlock=some q→w'.heap[q]?=w.heap[q]?∧q<w'.heap.size:=by
  intro q hq
  obtain⟨_,cs,hh⟩:=h4 q hq
  have hlt:=(Array.getElem?_eq_some_iff.1 hh).1
  exact⟨hk.block q hlt (hP q cs _ hh),Nat.lt_of_lt_of_le hlt hk.size⟩
 refine⟨⟨A,c,rfl,h1,h2,fun i t hi=>?_⟩,fun q hq=>?_⟩
 ·obtain⟨g,o,rfl,hg,c0,c1,c2,c3⟩:=h3 i t hi
  obtain⟨e1,e2⟩:=key g rfl
  have e:∀j,w'.cell? ⟨g,j,none⟩=w.cell? ⟨g,j,none⟩:=fun j=>World.cell?_of_block e1
  exact⟨g,o,rfl,e2,by rw[e,c0],by rw[e,c1],by rw[e,c2],by rw[e,c3]⟩
 ·obtain⟨hB,cs,hh⟩:=h4 q hq
  exact⟨hB,cs,by rw[(key q hq).1];exact hh⟩
theorem CY.on {B:Nat} {w w':World} {v:Value} {l:List Nod} (h:CY B w v l) (hb:Below w.heap.size w w'):CY B w' v l:=h.keep (P:=fun _=>False) (AG.of hb) (fun _ _ _ _=>id)
theorem IU (B:Nat) (w:World):CY B w (.slice none 0 0) []:=⟨⟨none,0,rfl,Nat.le_refl _,Nat.zero_le _,fun i t h=>by simp at h⟩,fun q h=>by simp[Value.ownBlock]at h⟩
theorem CE.readE {w:World} {B B':Nat} {v:Value} {l:List Nod} (h:CE w B v l) (hBB:B'≤B):CY B' w v l:=by
 refine⟨h.read,fun q hq=>?_⟩
 rcases h.2 with⟨rfl,_⟩|⟨g,cap,cur,rfl,hB,hh,_⟩
 ·simp[Value.ownBlock]at hq
 ·simp[Value.ownBlock]at hq
  subst hq
  exact⟨Nat.le_trans hBB hB,_,hh⟩
structure Src (L:List Tok) (W0:World) (lv:Value):Prop where
 toks:Gf W0 lv L
 tabs:Tabs W0
 len:L.length≤10000
 small:Gk L
structure Dm (L:List Tok) (W0:World) (g:Nat) (lv:Value) (i d l m:Nat) (pl:Int) (K:List Sv) (kv:Value) (w:World):Prop where
 low:Below W0.heap.size W0 w
 gB:W0.heap.size≤g
 blk:w.heap[g]?=some (.cells #[lv,.int .i64 i,.int .i64 d,.int .i64 l,.int .i64 m,kv,.int .i64 pl] 255 (0,0))
 row:w.ownsRow W0.heap.size 44 9 kv K.length (CC K)
 rds:∀x∈K,CY W0.heap.size w x.vE x.s.e∧CY W0.heap.size w x.vF x.s.f
 len:K.length=min m 40
 il:i≤L.length∨m=0
 mi:m≤i
 dd:d≤13
 ll:l≤d
def Mine (g:Nat) (kv:Value) (k:Nat):Prop:=k=g∨kv.ownBlock=some k
theorem Ph {w:World} {B:Nat} {v:Value} {n:Nat} {xs:List Value} (h:w.ownsRow B 44 9 v n xs):∀q,v.ownBlock=some q→B≤q∧∃cs,w.heap[q]?=some (.cells cs 44 (0,0)):=by
 intro q hq
 rcases h.2 with⟨rfl,_⟩|⟨g',cap,cur,rfl,hB,hgg,_⟩
 ·simp[Value.ownBlock]at hq
 ·simp[Value.ownBlock]at hq
  subst hq
  exact⟨hB,cur,hgg⟩
theorem Kq {P:Nat→Prop} {w w':World} {B:Nat} {v:Value} {n:Nat} {xs:List Value} (h:w.ownsRow B 44 9 v n xs) (hk:AG P w w') (hP:∀q,v.ownBlock=some q→¬P q):w'.ownsRow B 44 9 v n xs:=by
 refine⟨h.1,?_⟩
 rcases h.2 with h|⟨g',cap,cur,rfl,hB,hgg,r⟩
 ·exact .inl h
 ·exact .inr ⟨g',cap,cur,rfl,hB,by rw[hk.block g' (Array.getElem?_eq_some_iff.1 hgg).1 (hP g' rfl)];exact hgg,r⟩
section
variable {L:List Tok} {W0:World} {g:Nat} {lv:Value} {i d l m:Nat} {pl:Int} {K:List Sv} {kv:Value} {w:World}
theorem Dm.lt (h:Dm L W0 g lv i d l m pl K kv w):g<w.heap.size:=(Array.getElem?_eq_some_iff.1 h.blk).1
theorem Dm.own_ne (h:Dm L W0 g lv i d l m pl K kv w):∀q,kv.ownBlock=some q→q≠g∧q<w.heap.size∧W0.heap.size≤q:=by
 intro q hq
 obtain⟨hB,cs,hh⟩:=Ph h.row q hq
 refine⟨?_,(Array.getElem?_eq_some_iff.1 hh).1,hB⟩
 rintro rfl
 rw[h.blk]at hh
 simp at hh
theorem Dm.mine_low (h:Dm L W0 g lv i d l m pl K kv w):∀k,k<W0.heap.size→¬Mine g kv k:=by
 rintro k hk (rfl|hq)
 ·have:=h.gB;omega
 ·have:=(h.own_ne k hq).2.2;omega
theorem Dm.mine_nodes (h:Dm L W0 g lv i d l m pl K kv w):∀q cs fr,w.heap[q]?=some (.cells cs 46 fr)→¬Mine g kv q:=by
 rintro q cs fr hh (rfl|hq)
 ·rw[h.blk]at hh;simp at hh
 ·obtain⟨_,cs',hh'⟩:=Ph h.row q hq
  rw[hh']at hh;simp at hh
theorem Dm.c0 (h:Dm L W0 g lv i d l m pl K kv w):w.cell? ⟨g,0,none⟩=some lv:=by rw[Lib.cell_of_heap h.blk];rfl
theorem Dm.c1 (h:Dm L W0 g lv i d l m pl K kv w):w.cell? ⟨g,1,none⟩=some (.int .i64 i):=by rw[Lib.cell_of_heap h.blk];rfl
theorem Dm.c2 (h:Dm L W0 g lv i d l m pl K kv w):w.cell? ⟨g,2,none⟩=some (.int .i64 d):=by rw[Lib.cell_of_heap h.blk];rfl
theorem Dm.c3 (h:Dm L W0 g lv i d l m pl K kv w):w.cell? ⟨g,3,none⟩=some (.int .i64 l):=by rw[Lib.cell_of_heap h.blk];rfl
theorem Dm.c4 (h:Dm L W0 g lv i d l m pl K kv w):w.cell? ⟨g,4,none⟩=some (.int .i64 m):=by rw[Lib.cell_of_heap h.blk];rfl
theorem Dm.c5 (h:Dm L W0 g lv i d l m pl K kv w):w.cell? ⟨g,5,none⟩=some kv:=by rw[Lib.cell_of_heap h.blk];rfl
theorem Dm.c6 (h:Dm L W0 g lv i d l m pl K kv w):w.cell? ⟨g,6,none⟩=some (.int .i64 pl):=by rw[Lib.cell_of_heap h.blk];rfl
theorem Dm.fz (h:Dm L W0 g lv i d l m pl K kv w) (j:Nat):w.frozen? ⟨g,j,none⟩=false:=Lib.frozen_of_heap h.blk j
theorem Dm.put (h:Dm L W0 g lv i d l m pl K kv w) {w':World} {i' d' l' m':Nat} {pl':Int} (hk:AG (fun k=>k=g) w w') (hb:w'.heap[g]?=some (.cells #[lv,.int .i64 i',.int .i64 d',.int .i64 l',.int .i64 m',kv,.int .i64 pl'] 255 (0,0))) (hm:min m' 40=min m 40) (hi:i'≤L.length∨m'=0) (hmi:m'≤i') (hd:d'≤13) (hl:l'≤d'):Dm L W0 g lv i' d' l' m' pl' K kv w':=by
 have hg:=h.gB
 refine⟨h.low.trans (hk.below (fun k hk e=>by omega) h.low.size),hg,hb,Kq h.row hk (fun q hq e=>(h.own_ne q hq).1 e),fun x hx=>?_,by rw[h.len,hm],hi,hmi,hd,hl⟩
 obtain⟨h1,h2⟩:=h.rds x hx
 have hn:∀q cs fr,w.heap[q]?=some (.cells cs 46 fr)→¬(q=g):=fun q cs fr hh e=>h.mine_nodes q cs fr hh (.inl e)
 exact⟨h1.keep hk hn,h2.keep hk hn⟩
theorem Am {j:Nat} {v:Value} {cs:Array Value} {T:TypeId} {fr:Nat×Nat} (h:w.heap[g]?=some (.cells cs T fr)):(w.setCell ⟨g,j,none⟩ v).heap[g]?=some (.cells (cs.setIfInBounds j v) T fr):=by
 simp[World.setCell,Array.getElem?_modify,h]
theorem Dm.set1 (h:Dm L W0 g lv i d l m pl K kv w) {j:Nat} (hj:j≤L.length) (hm:m≤j):Dm L W0 g lv j d l m pl K kv (w.setCell ⟨g,1,none⟩ (.int .i64 j)):=
 h.put AG.set (Am h.blk) rfl (.inl hj) hm h.dd h.ll
theorem Dm.set2 (h:Dm L W0 g lv i d l m pl K kv w) {j:Nat} (hj:j≤13) (hl:l≤j):Dm L W0 g lv i j l m pl K kv (w.setCell ⟨g,2,none⟩ (.int .i64 j)):=
 h.put AG.set (Am h.blk) rfl h.il h.mi hj hl
theorem Dm.set3 (h:Dm L W0 g lv i d l m pl K kv w) {j:Nat} (hl:j≤d):Dm L W0 g lv i d j m pl K kv (w.setCell ⟨g,3,none⟩ (.int .i64 j)):=
 h.put AG.set (Am h.blk) rfl h.il h.mi h.dd hl
theorem Dm.set6 (h:Dm L W0 g lv i d l m pl K kv w) (p:Int):Dm L W0 g lv i d l m p K kv (w.setCell ⟨g,6,none⟩ (.int .i64 p)):=
 h.put AG.set (Am h.blk) rfl h.il h.mi h.dd h.ll
theorem Dm.on (h:Dm L W0 g lv i d l m pl K kv w) {w':World} (hb:Below w.heap.size w w'):Dm L W0 g lv i d l m pl K kv w':=
 h.put (AG.of hb) (by rw[hb.block g h.lt];exact h.blk) rfl h.il h.mi h.dd h.ll
theorem Dm.toks (h:Dm L W0 g lv i d l m pl K kv w) (hs:Src L W0 lv):Gf w lv L:=by
 obtain⟨A,c,hv,hc,hr⟩:=hs.toks
 refine⟨A,c,hv,hc,fun i t hi=>?_⟩
 obtain⟨b,hA,hb,h0,h1,h2,h3⟩:=hr i t hi
 have e:∀j,w.cell? ⟨b,j,none⟩=W0.cell? ⟨b,j,none⟩:=fun j=>h.low.cell (p:=⟨b,j,none⟩) hb
 exact⟨b,hA,Nat.lt_of_lt_of_le hb h.low.size,by rw[e];exact h0,by rw[e];exact h1,by rw[e];exact h2,by rw[e];exact h3⟩
theorem Dm.tabs (h:Dm L W0 g lv i d l m pl K kv w) (hs:Src L W0 lv):Tabs w:=hs.tabs.on h.low
end
end Go.Proofs.YthfkpalfopdmhaaGreatDoor
namespace Go.Proofs.YthfkpalfopdmhaaGreatDoor
open Go
def Jp (l:List UInt8) (T:List Tok):Prop:=∀r a,∃T',T'.map Tok.bare=T∧AS (l++r) a=(AS r (a+l.length)).pre T'
def Sc (l:List UInt8) (T:List Tok):Prop:=∀r a,PQ r→∃T',T'.map Tok.bare=T∧AS (l++r) a=(AS r (a+l.length)).pre T'
def LJ (m:List UInt8):Prop:=∀r,PQ (m++r)
theorem J7 {c:UInt8} {m:List UInt8} (h:c=32∨c=41∨c=44∨c=59):LJ (c::m):=by
 intro r
 rcases h with rfl|rfl|rfl|rfl
 ·exact .inr (.inl ⟨_,rfl⟩)
 ·exact .inr (.inr (.inl ⟨_,rfl⟩))
 ·exact .inr (.inr (.inr (.inl ⟨_,rfl⟩)))
 ·exact .inr (.inr (.inr (.inr ⟨_,rfl⟩)))
theorem Og {l m:List UInt8} {T S:List Tok} {r:List UInt8} {a:Nat} (h1:∃T',T'.map Tok.bare=T∧AS (l++(m++r)) a=(AS (m++r) (a+l.length)).pre T') (h2:∃T',T'.map Tok.bare=S∧AS (m++r) (a+l.length)=(AS r (a+l.length+m.length)).pre T'):
  ∃T',T'.map Tok.bare=T++S∧AS ((l++m)++r) a=(AS r (a+(l++m).length)).pre T':=by
 obtain⟨T1,e1,s1⟩:=h1
 obtain⟨T2,e2,s2⟩:=h2
 refine⟨T1++T2,by rw[List.map_append,e1,e2],?_⟩
 rw[List.append_assoc,s1,s2,SN,List.length_append,Nat.add_assoc]
theorem Jp.app {l m:List UInt8} {T S:List Tok} (h1:Jp l T) (h2:Jp m S):Jp (l++m) (T++S):=fun _ _=>Og (h1 _ _) (h2 _ _)
theorem Jp.appS {l m:List UInt8} {T S:List Tok} (h1:Jp l T) (h2:Sc m S):Sc (l++m) (T++S):=fun _ _ hr=>Og (h1 _ _) (h2 _ _ hr)
theorem Sc.app {l m:List UInt8} {T S:List Tok} (h1:Sc l T) (h2:Jp m S) (hm:LJ m):Jp (l++m) (T++S):=fun r _=>Og (h1 _ _ (hm r)) (h2 _ _)
theorem Sc.appS {l m:List UInt8} {T S:List Tok} (h1:Sc l T) (h2:Sc m S) (hm:LJ m):Sc (l++m) (T++S):=fun r _ hr=>Og (h1 _ _ (hm r)) (h2 _ _ hr)
theorem Jp.sc {l:List UInt8} {T:List Tok} (h:Jp l T):Sc l T:=fun r a _=>h r a
theorem N6:Jp [] []:=fun r a=>⟨[],rfl,by rw[List.nil_append,pre_nil _ (Gj _ _).1 (Gj _ _).2];rfl⟩
theorem EP {p:List UInt8} (h:p.all Es=true):Jp p []:=fun r a=>⟨[],rfl,by rw[UK p r a h,pre_nil _ (Gj _ _).1 (Gj _ _).2]⟩
def sg (c:UInt8):Tok:=⟨3,[c],0,0⟩
def wd (s:List UInt8):Tok:=⟨1,s,0,0⟩
theorem I6 {c:UInt8} (hc:c=123∨c=125∨c=59∨c=44):Jp [c] [sg c]:=by
 intro r a
 have hcut:Ag (c::r)=⟨0,3,[c],0⟩:=by
  have hl:Et c=false:=by rcases hc with rfl|rfl|rfl|rfl<;>decide
  have hd:digB c=false:=by rcases hc with rfl|rfl|rfl|rfl<;>decide
  rw[EV r hl hd]
  unfold Du
  have:Eu (c::r)=some [c]:=by
   unfold Eu Bn
   rcases hc with rfl|rfl|rfl|rfl<;>simp[List.isPrefixOf]
  rw[this]
 have hb:Es c=false:=by rcases hc with rfl|rfl|rfl|rfl<;>decide
 have h2:EF (c::r)=false:=Ni (by rcases hc with rfl|rfl|rfl|rfl<;>decide) _
 exact⟨[⟨3,[c],0,a⟩],rfl,Ig (c:=c) (m:=[]) (r:=r) (k:=3) (n:=0) a hb h2 hcut⟩
theorem QGj:Jp [61,32] [sg 61]:=by
 intro r a
 have hcut:Ag (61::32::r)=⟨0,3,[61],0⟩:=by
  rw[EV _ (by decide) (by decide)]
  unfold Du
  have:Eu (61::32::r)=some [61]:=by
   unfold Eu Bn
   simp[List.isPrefixOf]
  rw[this]
 have h2:EF (61::32::r)=false:=Ni (by decide) _
 refine⟨[⟨3,[61],0,a⟩],rfl,?_⟩
 have:=Ig (c:=61) (m:=[]) (r:=32::r) (k:=3) (n:=0) a (by decide) h2 hcut
 show AS (61::32::r) a=_
 rw[show(61::32::r:List UInt8)=[61]++32::r from rfl,this,AU _ _ (by decide)]
 rfl
theorem J8 {l:List UInt8} (h:MK l=true):Sc l [wd l]:=by
 intro r a hr
 cases l with
 |nil=>exact absurd h (by decide)
 |cons c m=>
  unfold MK at h
  simp only[Bool.and_eq_true,decide_eq_true_eq]at h
  obtain⟨⟨⟨_,h1⟩,h2⟩,h3⟩:=h
  have hc:Et c=true:=by simpa using h2
  have hcc:c.toNat=95∨(97≤c.toNat∧c.toNat≤122):=by unfold Et at hc;simp at hc;omega
  have hb:Es c=false:=by unfold Es;simp;omega
  refine⟨[⟨1,c::m,0,a⟩],rfl,Ig a hb (Ni (fun e=>by subst e;simp at hcc) _) ?_⟩
  rw[List.cons_append,Ew _ hc,←List.cons_append]
  unfold Di
  rw[Ls (by decide) (by decide) (by decide) (by decide) hr (c::m) h3,if_neg (by omega)]
theorem ZL {l:List UInt8} (h:nameB l=true):MK l=true:=by
 rw[←SO,h];rfl
theorem G8 {l:List UInt8} (h:nameB l=true):Sc l [wd l]:=J8 (ZL h)
theorem QBI {n:Int} (h0:0≤n) (h1:n≤4294967296):Sc (Lib.itoa n) [⟨2,Lib.itoa n,n,0⟩]:=by
 intro r a hr
 obtain⟨u,rfl⟩:∃u:Nat,n=u:=⟨n.toNat,by omega⟩
 rw[Lib.itoa_nonneg]
 exact⟨_,rfl,scan_num a (by omega) hr⟩
def Hl (l:List Nod):List Tok:=match F8 l with
 |some x=>BL false x
 |none=>[]
theorem LK {l:List Nod} (h:BZ l=true):Sc (Bi l) (Hl l):=by
 obtain⟨x,rfl,h1,h2,h3,h4,h5⟩:=Gq h
 rw[h4]
 unfold Hl
 rw[Ia h1.1]
 exact fun r a hr=>Vu x false r a h1 hr
def Hn (x:Stm):List Tok:=
 if x.kind=1 then[wd x.reg]++([sg 61]++Hl x.e)
 else if x.kind=2 then[wd (Jo 2)]++([wd x.reg]++([sg 61]++[wd x.name]))
 else if x.kind=3 then[wd (Jo 3)]++([wd x.name]++([sg 61]++Hl x.e))
 else if x.kind=4 then[wd (Jo 4)]++([wd x.reg]++([sg 61]++([wd x.name]++([sg 44]++(Hl x.e++([sg 44]++Hl x.f))))))
 else if x.kind=11∨x.kind=14 then[wd (Jo x.kind)]++Hl x.e
 else if x.kind=12 then[wd (Jo 12)]++[⟨2,Lib.itoa x.n,x.n,0⟩]
 else if x.kind=7∨x.kind=8∨x.kind=13 then[wd (Jo x.kind)]
 else[wd (Jo x.kind)]++[wd x.name]
theorem QDQ:∀k:Fin 15,2≤k.1→MK (CO.getD k.1 [])=true:=by decide
theorem P9 {k:Nat} (h1:2≤k) (h2:k≤14):Sc (Jo (k:Nat)) [wd (Jo (k:Nat))]:=by
 have:=QDQ ⟨k,by omega⟩ h1
 simp only at this
 unfold Jo
 rw[Int.toNat_natCast]
 exact J8 this
theorem QA:Jp [32,61,32] [sg 61]:=(EP (p:=[32]) (by decide)).app QGj
theorem QB:Jp [44,32] [sg 44]:=by
 have:=(I6 (c:=44) (by simp)).app (EP (p:=[32]) (by decide))
 exact this
theorem QC {l:List UInt8} {T:List Tok} (h:Sc l T):Sc (32::l) T:=(EP (p:=[32]) (by decide)).appS h
theorem Ku (m:List UInt8):LJ (32::m):=J7 (.inl rfl)
theorem QEt (m:List UInt8):LJ (44::m):=J7 (.inr (.inr (.inl rfl)))
theorem QEu (m:List UInt8):LJ (59::m):=J7 (.inr (.inr (.inr rfl)))
theorem QDR {x:Stm} (h:Dy x=true):Sc (I1 x) (Hn x):=by
 obtain⟨k,hk,h1,h2⟩:=Hj h
 obtain⟨_,_,_,hr,hn,he,hf,ht⟩:=J2 hk h
 unfold I1 Hn
 rw[hk]
 have hkk:k=1∨k=2∨k=3∨k=4∨(k=11∨k=14)∨k=12∨(k=7∨k=8∨k=13)∨(k=5∨k=6∨k=9∨k=10):=by omega
 rcases hkk with rfl|rfl|rfl|rfl|h|rfl|h|h
 ·exact(G8 hr).appS (QA.appS (LK he)) (Ku _)
 ·exact(P9 (k:=2) (by omega) (by omega)).appS (QC ((G8 hr).appS (QA.appS (G8 hn)) (Ku _))) (Ku _)
 ·exact(P9 (k:=3) (by omega) (by omega)).appS (QC ((G8 hn).appS (QA.appS (LK he)) (Ku _))) (Ku _)
 ·exact(P9 (k:=4) (by omega) (by omega)).appS (QC ((G8 hr).appS (QA.appS ((G8 hn).appS (QB.appS ((LK he).appS (QB.appS (LK hf)) (QEt _))) (QEt _))) (Ku _))) (Ku _)
 ·rw[if_neg (by omega),if_neg (by omega),if_neg (by omega),if_neg (by omega),if_pos (by omega),if_neg (by omega),if_neg (by omega),if_neg (by omega),if_neg (by omega),if_pos (by omega)]
  rw[if_pos (by omega)]at he
  exact(P9 (by omega) h2).appS (QC (LK he)) (Ku _)
 ·have ht':1≤x.n∧x.n≤8:=by simpa using ht
  exact(P9 (k:=12) (by omega) (by omega)).appS (QC (QBI (by omega) (by omega))) (Ku _)
 ·rw[if_neg (by omega),if_neg (by omega),if_neg (by omega),if_neg (by omega),if_neg (by omega),if_neg (by omega),if_pos (by omega),if_neg (by omega),if_neg (by omega),if_neg (by omega),if_neg (by omega),if_neg (by omega),if_neg (by omega),if_pos (by omega)]
  exact P9 (by omega) h2
 ·rw[if_neg (by omega),if_neg (by omega),if_neg (by omega),if_neg (by omega),if_neg (by omega),if_neg (by omega),if_neg (by omega),if_neg (by omega),if_neg (by omega),if_neg (by omega),if_neg (by omega),if_neg (by omega),if_neg (by omega),if_neg (by omega)]
  rw[if_pos (by omega)]at hn
  exact(P9 (by omega) h2).appS (QC (G8 hn)) (Ku _)
def Ho (T:List Tok) (n:Nat):List Tok:=if 0<n then wd FU::sg 123::(T++[sg 125])else[]
def Dn:Bk→List Tok
 |.nil=>[]
 |.cons s b e r=>Hn s++((if GR s.kind then sg 123::(Dn b++(sg 125::Ho (Dn e) e.count))else[sg 59])++Dn r)
theorem LL {l:List UInt8} {T T':List Tok} (h:Jp l T) (e:T=T'):Jp l T':=e▸h
theorem QBJ:∀(b:Bk) (ind:List UInt8),FV b→ind.all Es=true→Jp (Bw ind b) (Dn b):=by
 intro b
 induction b with
 |nil=>intro ind _ _;exact N6
 |cons s b e r i1 i2 i3=>
  intro ind h hi
  obtain⟨_,_,_,_,g1,g2,g3,g4⟩:=Gs.1 h
  have hi2:(ind++[32,32]).all Es=true:=by rw[List.all_append,hi];rfl
  have c1:=i1 _ g2 hi2
  have c2:=i2 _ g3 hi2
  have c3:=i3 _ g4 hi
  have hd:=QDR g1
  have hind:=EP hi
  have nl:Jp [10] []:=EP (by decide)
  have ob:Jp [32,123,10] [sg 123]:=((EP (p:=[32]) (by decide)).app (I6 (c:=123) (by simp))).app nl
  have cb:Jp [125,10] [sg 125]:=(I6 (c:=125) (by simp)).app nl
  unfold Bw Dn
  split
  ·have ew:Jp ([125,32]++FU++[32,123,10]) [sg 125,wd FU,sg 123]:=
    LL ((((I6 (c:=125) (by simp)).app (EP (p:=[32]) (by decide))).appS (J8 (l:=FU) (by decide))).app ob (Ku _)) rfl
   have mid:Jp ((if 0<e.count then ind++([125,32]++FU++[32,123,10])++Bw (ind++[32,32]) e else[])++(ind++[125,10])) (sg 125::Ho (Dn e) e.count):=by
    unfold Ho
    split
    ·exact LL (((hind.app ew).app c2).app (hind.app cb)) (by simp)
    ·exact LL (N6.app (hind.app cb)) (by simp)
   have all:=hind.app (hd.app ((ob.app (c1.app mid)).app c3) (Ku _))
   exact LL all (by simp)
  ·have semi:Jp [59,10] [sg 59]:=(I6 (c:=59) (by simp)).app nl
   have all:=hind.app (hd.app (semi.app c3) (QEu _))
   exact LL all (by simp)
theorem L1 {L:List Tok} {i b:Nat} {c:UInt8} {T:List Tok} (hc:c=59∨c=44∨c=123) (h:Aj L i (sg c::T)):A9 L b i=0:=by
 refine LE fun op ho _=>?_
 rw[Bo h]
 have key:∀op:Fin 16,(([59]:List UInt8)==A7 op)=false∧(([44]:List UInt8)==A7 op)=false∧(([123]:List UInt8)==A7 op)=false:=by decide
 have k:=key ⟨op,ho⟩
 simp only at k
 show(((3:Int)==1||(3:Int)==3)&&([c]==A7 op))=false
 rcases hc with rfl|rfl|rfl
 ·rw[k.1];rfl
 ·rw[k.2.1];rfl
 ·rw[k.2.2];rfl
theorem QBK {x:Ex} (h:JV x) (hd:x.deep≤12) (hs:x.size≤40) {L:List Tok} {i:Nat} {c:UInt8} {R:List Tok} (hc:c=59∨c=44∨c=123) (hF:Aj L i (BL false x++sg c::R)):
  ∃l:List Nod,l.map bareN=x.flat.map bareN∧exprP L i=.ok l (i+(BL false x).length):=by
 have key:∃x' f,E0 x'=E0 x∧Ax L f 1 i 0=some (.ok x' (i+(BL false x).length)):=by
  cases x with
  |leaf a=>
   obtain⟨x',f,h1,h2⟩:=IF (.leaf a) L i 0 _ h hF (by omega)
   have hF2:=Aj.app (S:=BL true (.leaf a)) hF
   obtain⟨f',hf'⟩:=Jx h2 5 1 (by omega) (by omega) (fun c' _ _=>L1 hc hF2)
   exact⟨x',f',h1,hf'⟩
  |un a y=>
   obtain⟨x',f,h1,h2⟩:=IF (.un a y) L i 0 _ h hF (by omega)
   have hF2:=Aj.app (S:=BL true (.un a y)) hF
   obtain⟨f',hf'⟩:=Jx h2 5 1 (by omega) (by omega) (fun c' _ _=>L1 hc hF2)
   exact⟨x',f',h1,hf'⟩
  |bin a y z=>
   have hn:CN a=true:=Ih h
   obtain⟨gx,gy⟩:=KY h
   have hop:=GP h.1.1
   obtain⟨k,hk⟩:∃k:Nat,a.op=k:=⟨a.op.toNat,by omega⟩
   have hk2:BG (k:Int)=some 2:=by rw[←hk];exact h.1.1
   have hkn:a.op.toNat=k:=by omega
   have e:BL false (.bin a y z)=BL true y++EW k::BL true z:=by simp[BL,hkn]
   have hF1:Aj L i (BL true y++(EW k::(BL true z++sg c::R))):=by rw[e]at hF;simpa using hF
   simp only[Ex.deep]at hd
   obtain⟨y',f,hy',hf⟩:=IF y L i 0 _ gx hF1 (by omega)
   have hF2:=hF1.app
   obtain⟨t2,_,_,hF3⟩:=Aj.head hF2
   obtain⟨z',g,hz',hg⟩:=IF z L (i+(BL true y).length+1) 0 _ gy hF3 (by omega)
   have hF4:=hF3.app
   obtain⟨f',hf'⟩:=Ub hk2 hf hF2 hg (fun c' _=>L1 hc hF4)
   refine⟨.bin ⟨k,0,[],plAt L (i+(BL true y).length)⟩ y' z',f',?_,?_⟩
   ·simp only[E0]
    rw[hy',hz',Nk hk (PS hn (by
     intro e1;rw[e1]at hk;have:k=1:=by omega
     subst this;exact absurd hk2 (by decide)) (by
     intro e1;rw[e1]at hk;have:k=2:=by omega
     subst this;exact absurd hk2 (by decide)))]
   ·rw[hf',e]
    congr 2
    simp only[List.length_append,List.length_cons];omega
 obtain⟨x',f,hx',hf⟩:=key
 have hd':x'.deep=x.deep:=by rw[←IR x',hx',IR]
 have hs':x'.size=x.size:=by rw[←IS x',hx',IS]
 have hfl:x'.flat.map bareN=x.flat.map bareN:=by rw[←GK,hx',GK]
 refine⟨x'.flat,hfl,?_⟩
 unfold exprP
 rw[IQ,YM hf,Mc (by omega) (by omega),if_pos rfl]
 show RS.ok x'.flat (((i+(BL false x).length:Nat):Int)).toNat=_
 rw[Int.toNat_natCast]
theorem LM {l:List Nod} (h:BZ l=true) {L:List Tok} {i:Nat} {c:UInt8} {R:List Tok} (hc:c=59∨c=44∨c=123) (hF:Aj L i (Hl l++sg c::R)):
  ∃l':List Nod,l'.map bareN=l.map bareN∧exprP L i=.ok l' (i+(Hl l).length):=by
 obtain⟨x,rfl,h1,h2,h3,_,_⟩:=Gq h
 have e:Hl x.flat=BL false x:=by unfold Hl;rw[Ia h1.1]
 rw[e]at hF⊢
 exact QBK h1 h2 h3 hc hF
theorem FS {L:List Tok} {i:Nat} {c:UInt8} {R:List Tok} (h:Aj L i (sg c::R)):Bg L i [c]=.ok () (i+1)∧Aj L (i+1) R:=by
 obtain⟨t,_,_,h3⟩:=Aj.head h
 refine⟨?_,h3⟩
 unfold Bg
 rw[Bo h]
 simp[sg]
theorem G9 {L:List Tok} {i:Nat} {s:List UInt8} {R:List Tok} (hs:nameB s=true) (h:Aj L i (wd s::R)):BW L i=.ok s (i+1)∧Aj L (i+1) R:=by
 obtain⟨t,h1,h2,h3⟩:=Aj.head h
 refine⟨?_,h3⟩
 have hk:t.kind=1:=by have:=congrArg Tok.kind h2;exact this
 have hv:t.text=s:=by have:=congrArg Tok.text h2;exact this
 unfold BW nameAt
 rw[h1]
 simp only
 rw[if_pos ⟨hk,by rw[hv];exact hs⟩,hv]
theorem QBL {L:List Tok} {i:Nat} {n:Int} {u:List UInt8} {R:List Tok} (hn:1≤n∧n≤8) (h:Aj L i (⟨2,u,n,0⟩::R)):Dc L i=.ok n (i+1)∧Aj L (i+1) R:=by
 obtain⟨t,h1,h2,h3⟩:=Aj.head h
 refine⟨?_,h3⟩
 have hk:t.kind=2:=by have:=congrArg Tok.kind h2;exact this
 have hv:t.n=n:=by have:=congrArg Tok.n h2;exact this
 unfold Dc
 rw[h1]
 simp only
 rw[if_pos hk,hv,if_pos hn]
theorem QDS:∀k:Fin 15,2≤k.1→((List.range 15).find? (fun j=>decide (2≤j)&&(CO.getD k.1 []==CO.getD j []))).getD 1=k.1:=by decide
theorem J9 {L:List Tok} {i k:Nat} {R:List Tok} (h1:2≤k) (h2:k≤14) (h:Aj L i (wd (Jo (k:Nat))::R)):Ao L i=k∧isB L i [125]=false:=by
 have e:Jo (k:Nat)=CO.getD k []:=by unfold Jo;rw[Int.toNat_natCast]
 rw[e]at h
 have hk:=QDS ⟨k,by omega⟩ h1
 simp only at hk
 refine⟨?_,?_⟩
 ·unfold Ao
  have:(fun j=>decide (2≤j)&&isB L i (CO.getD j []))=(fun j=>decide (2≤j)&&(CO.getD k []==CO.getD j [])):=by
   funext j
   rw[Bo h]
   simp[wd]
  rw[this];exact hk
 ·rw[Bo h]
  have key:∀k:Fin 15,2≤k.1→(CO.getD k.1 []==[125])=false:=by decide
  have:=key ⟨k,by omega⟩ h1
  simp only at this
  show(((1:Int)==1||(1:Int)==3)&&(CO.getD k []==[125]))=false
  rw[this];rfl
theorem QDT:∀k:Fin 15,2≤k.1→JM (CO.getD k.1 [])=true:=by decide
theorem ZM {L:List Tok} {i:Nat} {s:List UInt8} {R:List Tok} (hs:nameB s=true) (h:Aj L i (wd s::R)):Ao L i=1∧isB L i [125]=false:=by
 have hne:∀k,2≤k→k≤14→(s==CO.getD k [])=false:=by
  intro k h1 h2
  rw[beq_eq_false_iff_ne]
  intro e
  have h3:=QDT ⟨k,by omega⟩ h1
  simp only at h3
  rw[←e]at h3
  have:=Qk s
  rw[hs,h3]at this;cases this
 refine⟨?_,?_⟩
 ·unfold Ao
  have:(List.range 15).find? (fun j=>decide (2≤j)&&isB L i (CO.getD j []))=none:=by
   rw[List.find?_eq_none]
   intro j hj
   rw[List.mem_range]at hj
   rw[Bo h]
   by_cases h2:2≤j
   ·have:=hne j h2 (by omega)
    show¬((decide (2≤j)&&(((1:Int)==1||(1:Int)==3)&&(s==CO.getD j [])))=true)
    rw[this];simp
   ·simp[h2]
  rw[this];rfl
 ·rw[Bo h]
  obtain⟨c,m,hc,hl⟩:=Lt hs
  have:(s==[125])=false:=by
   rw[beq_eq_false_iff_ne,hc]
   intro e
   simp at e
   rw[e.1]at hl;exact absurd hl (by decide)
  show(((1:Int)==1||(1:Int)==3)&&(s==[125]))=false
  rw[this];rfl
def bareS (s:Stm):Stm:={s with e:=s.e.map bareN,f:=s.f.map bareN,pl:=0}
def Il (s:Stm):Stm:={bareS s with body:=0,els:=0}
theorem TK {L:List Tok} {i:Nat} {T:List Tok} {c:UInt8} {R:List Tok} (h:Aj L i (T++sg c::R)):Aj L (i+T.length) (sg c::R):=h.app
theorem Xj {x:Stm} (h:Dy x=true) {L:List Tok} {i:Nat} {c:UInt8} {R:List Tok} (hc:c=59∨c=44∨c=123) (hF:Aj L i (Hn x++sg c::R)):
  (Ao L i:Int)=x.kind∧isB L i [125]=false∧∃s,Il s=Il x∧s.kind=x.kind∧s.body=0∧s.els=0∧Dz L i=.ok s (i+(Hn x).length):=by
 obtain⟨k,hk,h1,h2⟩:=Hj h
 obtain⟨_,_,_,hr,hn,he,hf,ht⟩:=J2 hk h
 unfold Hn at hF⊢
 rw[hk]at hF⊢
 have hkk:k=1∨k=2∨k=3∨k=4∨(k=11∨k=14)∨k=12∨(k=7∨k=8∨k=13)∨(k=5∨k=6∨k=9∨k=10):=by omega
 obtain⟨xk,xr,xn,xe,xf,xm,xb,xl,xp⟩:=x
 simp only at hk hr hn he hf ht hF⊢
 rcases hkk with rfl|rfl|rfl|rfl|h|rfl|h|h
 ·have hn':xn=[]:=by simpa using hn
  have hf':xf=[]:=by simpa using hf
  have ht':xm=0:=by simpa using ht
  subst hk;subst hn';subst hf';subst ht'
  have hF:Aj L i (wd xr::(sg 61::(Hl xe++sg c::R))):=by simpa using hF
  obtain⟨k1,k2⟩:=ZM hr hF
  obtain⟨a1,hF⟩:=G9 hr hF
  obtain⟨a2,hF⟩:=FS hF
  obtain⟨l,b1,a3⟩:=LM he hc hF
  refine⟨by rw[k1],k2,?_⟩
  unfold Dz
  rw[k1,if_pos rfl]
  refine⟨{GU 1 (AT L i)with reg:=xr,e:=l},by simp[Il,bareS,GU,b1],rfl,rfl,rfl,?_⟩
  unfold DC
  rw[if_pos rfl,a1,RS.bind_ok,a2,RS.bind_ok,a3,RS.bind_ok]
  congr 1
  simp;omega
 ·have he':xe=[]:=by simpa using he
  have hf':xf=[]:=by simpa using hf
  have ht':xm=0:=by simpa using ht
  subst hk;subst he';subst hf';subst ht'
  have hF:Aj L i (wd (Jo (2:Nat))::(wd xr::(sg 61::(wd xn::sg c::R)))):=by simpa using hF
  obtain⟨k1,k2⟩:=J9 (by omega) (by omega) hF
  obtain⟨_,_,_,hF⟩:=Aj.head hF
  obtain⟨a1,hF⟩:=G9 hr hF
  obtain⟨a2,hF⟩:=FS hF
  obtain⟨a3,hF⟩:=G9 hn hF
  refine⟨by rw[k1],k2,?_⟩
  unfold Dz
  rw[k1,if_neg (by omega)]
  refine⟨{GU 2 (AT L i)with reg:=xr,name:=xn},by simp[Il,bareS,GU],rfl,rfl,rfl,?_⟩
  unfold DC
  rw[if_neg (by omega),if_pos rfl,a1,RS.bind_ok,a2,RS.bind_ok,a3,RS.bind_ok]
  rfl
 ·have hr':xr=[]:=by simpa using hr
  have hf':xf=[]:=by simpa using hf
  have ht':xm=0:=by simpa using ht
  subst hk;subst hr';subst hf';subst ht'
  have hF:Aj L i (wd (Jo (3:Nat))::(wd xn::(sg 61::(Hl xe++sg c::R)))):=by simpa using hF
  obtain⟨k1,k2⟩:=J9 (by omega) (by omega) hF
  obtain⟨_,_,_,hF⟩:=Aj.head hF
  obtain⟨a1,hF⟩:=G9 hn hF
  obtain⟨a2,hF⟩:=FS hF
  obtain⟨l,b1,a3⟩:=LM he hc hF
  refine⟨by rw[k1],k2,?_⟩
  unfold Dz
  rw[k1,if_neg (by omega)]
  refine⟨{GU 3 (AT L i)with name:=xn,e:=l},by simp[Il,bareS,GU,b1],rfl,rfl,rfl,?_⟩
  unfold DC
  rw[if_neg (by omega),if_neg (by omega),if_pos rfl,a1,RS.bind_ok,a2,RS.bind_ok,a3,RS.bind_ok]
  congr 1
  simp;omega
 ·have ht':xm=0:=by simpa using ht
  subst hk;subst ht'
  have hF:Aj L i (wd (Jo (4:Nat))::(wd xr::(sg 61::(wd xn::(sg 44::(Hl xe++sg 44::(Hl xf++sg c::R))))))):=by simpa using hF
  obtain⟨k1,k2⟩:=J9 (by omega) (by omega) hF
  obtain⟨_,_,_,hF⟩:=Aj.head hF
  obtain⟨a1,hF⟩:=G9 hr hF
  obtain⟨a2,hF⟩:=FS hF
  obtain⟨a3,hF⟩:=G9 hn hF
  obtain⟨a4,hF⟩:=FS hF
  obtain⟨l,b1,a5⟩:=LM he (.inr (.inl rfl)) hF
  obtain⟨a6,hF⟩:=FS (TK hF)
  obtain⟨m,b2,a7⟩:=LM hf hc hF
  refine⟨by rw[k1],k2,?_⟩
  unfold Dz
  rw[k1,if_neg (by omega)]
  refine⟨{GU 4 (AT L i)with reg:=xr,name:=xn,e:=l,f:=m},by simp[Il,bareS,GU,b1,b2],rfl,rfl,rfl,?_⟩
  unfold DC
  rw[if_neg (by omega),if_neg (by omega),if_neg (by omega),if_pos rfl,a1,RS.bind_ok,a2,RS.bind_ok,a3,RS.bind_ok,a4,RS.bind_ok,a5,RS.bind_ok,a6,RS.bind_ok,a7,RS.bind_ok]
  congr 1
  simp;omega
 ·have hr':xr=[]:=by rw[if_neg (by omega)]at hr;simpa using hr
  have hn':xn=[]:=by rw[if_neg (by omega)]at hn;simpa using hn
  have hf':xf=[]:=by rw[if_neg (by omega)]at hf;simpa using hf
  have ht':xm=0:=by rw[if_neg (by omega)]at ht;simpa using ht
  rw[if_pos (by omega)]at he
  subst hk;subst hr';subst hn';subst hf';subst ht'
  rw[if_neg (by omega),if_neg (by omega),if_neg (by omega),if_neg (by omega),if_pos (by omega)]at hF⊢
  have hF:Aj L i (wd (Jo (k:Nat))::(Hl xe++sg c::R)):=by simpa using hF
  obtain⟨k1,k2⟩:=J9 (by omega) (by omega) hF
  obtain⟨_,_,_,hF⟩:=Aj.head hF
  obtain⟨l,b1,a1⟩:=LM he hc hF
  refine⟨by rw[k1],k2,?_⟩
  unfold Dz
  rw[k1,if_neg (by omega)]
  refine⟨{GU k (AT L i)with e:=l},by simp[Il,bareS,GU,b1],rfl,rfl,rfl,?_⟩
  unfold DC
  rw[if_neg (by omega),if_neg (by omega),if_neg (by omega),if_neg (by omega),if_neg (by omega),if_pos (by omega),a1,RS.bind_ok]
  congr 1
  simp;omega
 ·have hr':xr=[]:=by simpa using hr
  have hn':xn=[]:=by simpa using hn
  have he':xe=[]:=by simpa using he
  have hf':xf=[]:=by simpa using hf
  have ht':1≤xm∧xm≤8:=by simpa using ht
  subst hk;subst hr';subst hn';subst he';subst hf'
  have hF:Aj L i (wd (Jo (12:Nat))::(⟨2,Lib.itoa xm,xm,0⟩::sg c::R)):=by simpa using hF
  obtain⟨k1,k2⟩:=J9 (by omega) (by omega) hF
  obtain⟨_,_,_,hF⟩:=Aj.head hF
  obtain⟨a1,hF⟩:=QBL ht' hF
  refine⟨by rw[k1],k2,?_⟩
  unfold Dz
  rw[k1,if_neg (by omega)]
  refine⟨{GU 12 (AT L i)with n:=xm},by simp[Il,bareS,GU],rfl,rfl,rfl,?_⟩
  unfold DC
  rw[if_neg (by omega),if_neg (by omega),if_neg (by omega),if_neg (by omega),if_neg (by omega),if_neg (by omega),if_pos rfl,a1,RS.bind_ok]
  rfl
 ·have hr':xr=[]:=by rw[if_neg (by omega)]at hr;simpa using hr
  have hn':xn=[]:=by rw[if_neg (by omega)]at hn;simpa using hn
  have he':xe=[]:=by rw[if_neg (by omega)]at he;simpa using he
  have hf':xf=[]:=by rw[if_neg (by omega)]at hf;simpa using hf
  have ht':xm=0:=by rw[if_neg (by omega)]at ht;simpa using ht
  subst hk;subst hr';subst hn';subst he';subst hf';subst ht'
  rw[if_neg (by omega),if_neg (by omega),if_neg (by omega),if_neg (by omega),if_neg (by omega),if_neg (by omega),if_pos (by omega)]at hF⊢
  have hF:Aj L i (wd (Jo (k:Nat))::sg c::R):=by simpa using hF
  obtain⟨k1,k2⟩:=J9 (by omega) (by omega) hF
  refine⟨by rw[k1],k2,?_⟩
  unfold Dz
  rw[k1,if_neg (by omega)]
  refine⟨GU k (AT L i),by simp[Il,bareS,GU],rfl,rfl,rfl,?_⟩
  unfold DC
  rw[if_neg (by omega),if_neg (by omega),if_neg (by omega),if_neg (by omega),if_neg (by omega),if_neg (by omega),if_neg (by omega)]
  rfl
 ·have hr':xr=[]:=by rw[if_neg (by omega)]at hr;simpa using hr
  have he':xe=[]:=by rw[if_neg (by omega)]at he;simpa using he
  have hf':xf=[]:=by rw[if_neg (by omega)]at hf;simpa using hf
  have ht':xm=0:=by rw[if_neg (by omega)]at ht;simpa using ht
  rw[if_pos (by omega)]at hn
  subst hk;subst hr';subst he';subst hf';subst ht'
  rw[if_neg (by omega),if_neg (by omega),if_neg (by omega),if_neg (by omega),if_neg (by omega),if_neg (by omega),if_neg (by omega)]at hF⊢
  have hF:Aj L i (wd (Jo (k:Nat))::(wd xn::sg c::R)):=by simpa using hF
  obtain⟨k1,k2⟩:=J9 (by omega) (by omega) hF
  obtain⟨_,_,_,hF⟩:=Aj.head hF
  obtain⟨a1,hF⟩:=G9 hn hF
  refine⟨by rw[k1],k2,?_⟩
  unfold Dz
  rw[k1,if_neg (by omega)]
  refine⟨{GU k (AT L i)with name:=xn},by simp[Il,bareS,GU],rfl,rfl,rfl,?_⟩
  unfold DC
  rw[if_neg (by omega),if_neg (by omega),if_neg (by omega),if_neg (by omega),if_pos (by omega),a1,RS.bind_ok]
  rfl
def FW:Bk→Bk
 |.nil=>.nil
 |.cons s b e r=>.cons (bareS s) (FW b) (FW e) (FW r)
theorem EU (b:Bk):(FW b).count=b.count:=by
 induction b with
 |nil=>rfl
 |cons s b e r h1 h2 h3=>simp only[FW,Bk.count,h1,h2,h3]
theorem L2 {b b':Bk} (h:FW b'=FW b):b'.count=b.count:=by rw[←EU,h,EU]
theorem Im (b:Bk):(FW b).flat=b.flat.map bareS:=by
 induction b with
 |nil=>rfl
 |cons s b e r h1 h2 h3=>simp only[FW,Bk.flat,h1,h2,h3,List.map_cons,List.map_append]
theorem Wc (b:Bk):(FW b).deep=b.deep:=by
 induction b with
 |nil=>rfl
 |cons s b e r h1 h2 h3=>simp only[FW,Bk.deep,h1,h2,h3];rfl
theorem We {x:Stm} (h:Dy x=true):∃u T,Hn x=wd u::T∧(u==FU)=false:=by
 obtain⟨k,hk,h1,h2⟩:=Hj h
 obtain⟨_,_,_,hr,hn,he,hf,ht⟩:=J2 hk h
 have key:∀k:Fin 15,2≤k.1→(Jo (k.1:Nat)==FU)=false:=by decide
 have kw:2≤k→(Jo (k:Nat)==FU)=false:=fun h=>key ⟨k,by omega⟩ h
 unfold Hn
 rw[hk]
 have hkk:k=1∨k=2∨k=3∨k=4∨(k=11∨k=14)∨k=12∨(k=7∨k=8∨k=13)∨(k=5∨k=6∨k=9∨k=10):=by omega
 rcases hkk with rfl|rfl|rfl|rfl|h|rfl|h|h
 ·refine⟨x.reg,_,rfl,?_⟩
  have hr':nameB x.reg=true:=hr
  rw[beq_eq_false_iff_ne]
  intro e
  rw[e]at hr';exact absurd hr' (by decide)
 ·exact⟨_,_,rfl,kw (by omega)⟩
 ·exact⟨_,_,rfl,kw (by omega)⟩
 ·exact⟨_,_,rfl,kw (by omega)⟩
 ·rw[if_neg (by omega),if_neg (by omega),if_neg (by omega),if_neg (by omega),if_pos (by omega)]
  exact⟨_,_,rfl,kw (by omega)⟩
 ·exact⟨_,_,rfl,kw (by omega)⟩
 ·rw[if_neg (by omega),if_neg (by omega),if_neg (by omega),if_neg (by omega),if_neg (by omega),if_neg (by omega),if_pos (by omega)]
  exact⟨_,_,rfl,kw (by omega)⟩
 ·rw[if_neg (by omega),if_neg (by omega),if_neg (by omega),if_neg (by omega),if_neg (by omega),if_neg (by omega),if_neg (by omega)]
  exact⟨_,_,rfl,kw (by omega)⟩
theorem QBM {r:Bk} (h:FV r) {L:List Tok} {i:Nat} {R:List Tok} (hF:Aj L i (Dn r++sg 125::R)):isB L i FU=false:=by
 cases r with
 |nil=>
  have hF':Aj L i (sg 125::R):=hF
  rw[Bo hF'];rfl
 |cons s b e r=>
  obtain⟨_,_,_,_,g,_⟩:=Gs.1 h
  obtain⟨u,T,e1,e2⟩:=We g
  unfold Dn at hF
  rw[e1]at hF
  simp only[List.cons_append]at hF
  rw[Bo hF]
  show(((1:Int)==1||(1:Int)==3)&&(u==FU))=false
  rw[e2];rfl
theorem QDU {L:List Tok} {i:Nat} {R:List Tok} (hF:Aj L i (wd FU::R)):isB L i FU=true:=by
 rw[Bo hF];rfl
theorem U0 {L:List Tok} {f i d l n:Nat} {b:Bk} {T R:List Tok} (hd:d≤12) (hF:Aj L i (sg 123::(T++sg 125::R))) (hn:n=T.length) (hr:Ci L f (i+1) d l=some (.ok b (i+1+n))):
  Bz (Ci L f) L i d l=some (.ok b (i+1+n+1))∧Aj L (i+1+n+1) R:=by
 obtain⟨a1,hF1⟩:=FS hF
 have hF2:=hF1.app
 rw[←hn]at hF2
 obtain⟨a2,hF3⟩:=FS hF2
 refine⟨?_,hF3⟩
 unfold Bz
 rw[if_neg (by omega),a1,RS.obind_ok,hr,RS.obind_ok,a2,RS.obind_ok]
theorem U3 {s x:Stm} (h:Il s=Il x) (h1:s.body=x.body) (h2:s.els=x.els):bareS s=bareS x:=by
 obtain⟨a1,a2,a3,a4,a5,a6,a7,a8,a9⟩:=s
 obtain⟨b1,b2,b3,b4,b5,b6,b7,b8,b9⟩:=x
 simp only[Il,bareS,Stm.mk.injEq]at h h1 h2⊢
 simp[h,h1,h2]
theorem ZN {s:Stm} (m n:Int):Il {s with body:=m,els:=n}=Il s:=rfl
theorem QBN:∀(b:Bk) (L:List Tok) (i d l:Nat) (R:List Tok),FV b→b.brk l=true→d+b.deep≤12→Aj L i (Dn b++sg 125::R)→∃b' f,FW b'=FW b∧Ci L f i d l=some (.ok b' (i+(Dn b).length)):=by
 intro b
 induction b with
 |nil=>
  intro L i d l R _ _ _ hF
  have hF':Aj L i (sg 125::R):=hF
  refine⟨.nil,1,rfl,?_⟩
  rw[DI,if_pos (by rw[Bo hF'];rfl)];rfl
 |cons s b e r i1 i2 i3=>
  intro L i d l R h hb hd hF
  obtain⟨h1,h2,h3,h4,g1,g2,g3,g4⟩:=Gs.1 h
  simp only[Bk.brk,Bool.and_eq_true,Bool.or_eq_true,Bool.not_eq_true',decide_eq_true_eq,decide_eq_false_iff_not]at hb
  obtain⟨⟨⟨b0,b1⟩,b2⟩,b3⟩:=hb
  simp only[Bk.deep]at hd
  unfold Dn at hF⊢
  by_cases hk:GR s.kind
  ·rw[if_pos hk]at hF hd⊢
   have hF:Aj L i (Hn s++sg 123::(Dn b++sg 125::(Ho (Dn e) e.count++(Dn r++sg 125::R)))):=by simpa using hF
   obtain⟨k1,k2,s',p1,p2,p3,p4,p5⟩:=Xj g1 (.inr (.inr rfl)) hF
   have hFb:=TK hF
   obtain⟨_,_,_,hF1⟩:=Aj.head hFb
   have hin:Yo (Ao L i) l=if s.kind=12 then l+1 else l:=by
    unfold Yo
    by_cases hc:Ao L i=12
    ·rw[if_pos hc,if_pos (by omega)]
    ·rw[if_neg hc,if_neg (by omega)]
   rw[←hin]at b1 b2
   obtain⟨b',f1,q1,r1⟩:=i1 L _ (d+1) _ _ g2 b1 (by omega) hF1
   obtain⟨w1,hF2⟩:=U0 (by omega) hFb rfl r1
   have hkk:GR (Ao L i:Nat):=by rw[k1];exact hk
   have key:∃e' f2 j,FW e'=FW e∧j=i+(Hn s).length+1+(Dn b).length+1+(Ho (Dn e) e.count).length∧Df (Ci L f2) L (Ao L i) (i+(Hn s).length+1+(Dn b).length+1) (d+1) (Yo (Ao L i) l)=some (.ok e' j)∧Aj L j (Dn r++sg 125::R):=by
    by_cases hc:0<e.count
    ·have hk11:Ao L i=11:=by have:=h4 hc;omega
     have et:Ho (Dn e) e.count=wd FU::sg 123::(Dn e++[sg 125]):=by unfold Ho;rw[if_pos hc]
     rw[et]at hF2⊢
     have hF3:Aj L (i+(Hn s).length+1+(Dn b).length+1) (wd FU::(sg 123::(Dn e++sg 125::(Dn r++sg 125::R)))):=by simpa using hF2
     have ie:=QDU hF3
     obtain⟨_,_,_,hF4⟩:=Aj.head hF3
     obtain⟨_,_,_,hF5⟩:=Aj.head hF4
     obtain⟨e',f2,q2,r2⟩:=i2 L _ (d+1) _ _ g3 b2 (by omega) hF5
     obtain⟨w2,hF6⟩:=U0 (by omega) hF4 rfl r2
     refine⟨e',f2,_,q2,?_,?_,hF6⟩
     ·simp only[List.length_cons,List.length_append,List.length_nil];omega
     ·unfold Df;rw[if_pos ⟨hk11,ie⟩];exact w2
    ·obtain rfl:e=.nil:=count_nil (by omega)
     have et:Ho (Dn .nil) (Bk.count .nil)=[]:=rfl
     rw[et]at hF2⊢
     have hF3:Aj L (i+(Hn s).length+1+(Dn b).length+1) (Dn r++sg 125::R):=hF2
     refine⟨.nil,0,_,rfl,rfl,?_,hF3⟩
     unfold Df
     rw[if_neg (by rw[QBM g4 hF3];simp)]
     rfl
   obtain⟨e',f2,j,q2,ej,w2,hF7⟩:=key
   obtain⟨r',f3,q3,r3⟩:=i3 L j d l R g4 b3 (by omega) hF7
   have m1:=Ii (Ij L (Nat.le_trans (Nat.le_max_left f1 f2) (Nat.le_max_left _ f3))) w1
   have m2:=RO (Ij L (Nat.le_trans (Nat.le_max_right f1 f2) (Nat.le_max_left _ f3))) w2
   have m3:=Ij L (Nat.le_max_right (max f1 f2) f3) _ _ _ _ r3
   generalize max (max f1 f2) f3=F at m1 m2 m3
   refine⟨.cons {s' with body:=b'.count,els:=e'.count} b' e' r',F+1,?_,?_⟩
   ·simp only[FW]
    rw[q1,q2,q3]
    congr 1
    refine U3 ?_ ?_ ?_
    ·rw[ZN];exact p1
    ·show(b'.count:Int)=s.body;rw[h1,L2 q1]
    ·show(e'.count:Int)=s.els;rw[h2,L2 q2]
   ·rw[DI,if_neg (by rw[k2];simp)]
    have one:GO (Ci L F) L i d l=some (.ok ⟨{s' with body:=b'.count,els:=e'.count},b',e'⟩ j):=by
     unfold GO
     rw[if_neg (by omega)]
     unfold Dz at p5
     rw[p5,RS.obind_ok,if_neg (by simpa using hkk),m1,RS.obind_ok,m2,RS.obind_ok]
    rw[one,RS.obind_ok,m3,RS.obind_ok]
    congr 2
    rw[ej]
    simp only[List.length_cons,List.length_append];omega
  ·rw[if_neg hk]at hF⊢
   obtain rfl:b=.nil:=count_nil (by
    rcases Nat.eq_zero_or_pos b.count with h|h
    ·exact h
    ·exact absurd (h3 h) hk)
   obtain rfl:e=.nil:=count_nil (by
    rcases Nat.eq_zero_or_pos e.count with h|h
    ·exact h
    ·exact absurd (.inl (h4 h)) hk)
   have hF:Aj L i (Hn s++sg 59::(Dn r++sg 125::R)):=by simpa using hF
   obtain⟨k1,k2,s',p1,p2,p3,p4,p5⟩:=Xj g1 (.inl rfl) hF
   obtain⟨a1,hF1⟩:=FS (TK hF)
   obtain⟨r',f3,q3,r3⟩:=i3 L _ d l R g4 b3 (by omega) hF1
   refine⟨.cons s' .nil .nil r',f3+1,?_,?_⟩
   ·simp only[FW]
    rw[q3]
    congr 1
    exact U3 p1 (by rw[p3,h1];rfl) (by rw[p4,h2];rfl)
   ·rw[DI,if_neg (by rw[k2];simp)]
    have one:GO (Ci L f3) L i d l=some (.ok ⟨s',.nil,.nil⟩ (i+(Hn s).length+1)):=by
     unfold GO
     rw[if_neg (by omega)]
     unfold Dz at p5
     rw[p5,RS.obind_ok,if_pos (by rw[k1];exact hk),a1,RS.obind_ok]
    rw[one,RS.obind_ok,r3,RS.obind_ok]
    congr 2
    simp only[List.length_cons,List.length_append,List.length_nil];omega
theorem QBO {a b:Stm} (h:bareS a=bareS b):DO false a b=true:=by
 obtain⟨a1,a2,a3,a4,a5,a6,a7,a8,a9⟩:=a
 obtain⟨b1,b2,b3,b4,b5,b6,b7,b8,b9⟩:=b
 simp only[bareS,Stm.mk.injEq]at h
 obtain⟨rfl,rfl,rfl,h4,h5,rfl,rfl,rfl,_⟩:=h
 simp[DO,Nq h4,Nq h5]
theorem RZ:∀{L M:List Stm},L.map bareS=M.map bareS→Jv false L M=true
 |[],[],_=>rfl
 |[],b::m,h=>by simp at h
 |a::l,[],h=>by simp at h
 |a::l,b::m,h=>by
  simp only[List.map_cons,List.cons.injEq]at h
  have ih:=RZ h.2
  unfold Jv at *
  unfold Ad
  rw[QBO h.1,ih];rfl
end Go.Proofs.YthfkpalfopdmhaaGreatDoor
