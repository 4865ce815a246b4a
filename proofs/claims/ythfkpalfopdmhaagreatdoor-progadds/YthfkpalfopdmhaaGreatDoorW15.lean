/- Texts of the walk, packed. -/
import Derived.Test.YthfkpalfopdmhaaGreatDoorW14
import Derived.Test.YthfkpalfopdmhaaGreatDoorW08
import Derived.Lib.Builder
import Derived.Test.YthfkpalfopdmhaaGreatDoorW12
import Derived.Test.YthfkpalfopdmhaaGreatDoorW05
import Derived.Test.YthfkpalfopdmhaaGreatDoorW02
import Derived.Test.YthfkpalfopdmhaaGreatDoorW03
import Derived.Lib.OthersKept
import Derived.Lib.AppendStr
import Derived.Lib.AppendIntMem
import Derived.Lib.UnsafeStr
import Derived.WalkKit
import Derived.Laws.Externs
import Derived.Test.YthfkpalfopdmhaaGreatDoorW13
import Derived.Test.YthfkpalfopdmhaaGreatDoorW00
namespace Go.Proofs.YthfkpalfopdmhaaGreatDoor
open Go.RowKit
structure Sv where
 s:Stm
 vE:Value
 vF:Value
def A8 (x:Sv):List Value:=[.int .i64 x.s.kind,.string ⟨x.s.reg.toArray⟩,.string ⟨x.s.name.toArray⟩,x.vE,x.vF,.int .i64 x.s.n,.int .i64 x.s.body,.int .i64 x.s.els,.int .i64 x.s.pl]
def Bc (K:List Sv):List Value:=K.flatMap A8
theorem J8 (K:List Sv):(Bc K).length=K.length*9:=by
 induction K with
 |nil=>rfl
 |cons x K ih=>unfold Bc at *;rw[List.flatMap_cons,List.length_append,ih];simp[A8];omega
theorem ER (K M:List Sv):Bc (K++M)=Bc K++Bc M:=by unfold Bc;rw[List.flatMap_append]
structure AG (P:Nat->Prop) (w w':World):Prop where
 os:w'.os=w.os
 tape:w'.tape=w.tape
 output:w'.output=w.output
 size:w.heap.size<=w'.heap.size
 block:∀k,k<w.heap.size->¬P k->w'.heap[k]?=w.heap[k]?
theorem AG.refl (P:Nat->Prop) (w:World):AG P w w:=⟨rfl,rfl,rfl,Nat.le_refl _,fun _ _ _=>rfl⟩
theorem AG.trans {P Q R:Nat->Prop} {w w1 w2:World} (h:AG P w w1) (k:AG Q w1 w2) (hP:∀k,k<w.heap.size->P k->R k) (hQ:∀k,k<w.heap.size->Q k->R k):AG R w w2:=
 ⟨k.os.trans h.os,k.tape.trans h.tape,k.output.trans h.output,Nat.le_trans h.size k.size,fun i hi hg=>(k.block i (Nat.lt_of_lt_of_le hi h.size) (fun q=>hg (hQ i hi q))).trans (h.block i hi (fun p=>hg (hP i hi p)))⟩
theorem AG.of {P:Nat->Prop} {w w':World} (h:Below w.heap.size w w'):AG P w w':=⟨h.os,h.tape,h.output,h.size,fun k hk _=>h.block k hk⟩
theorem AG.mono {P Q:Nat->Prop} {w w':World} (h:AG P w w') (hP:∀k,k<w.heap.size->P k->Q k):AG Q w w':=⟨h.os,h.tape,h.output,h.size,fun k hk hq=>h.block k hk (fun p=>hq (hP k hk p))⟩
theorem AG.below {P:Nat->Prop} {w w':World} (h:AG P w w') {B:Nat} (hB:∀k,k<B->¬P k) (hw:B<=w.heap.size):Below B w w':=
 ⟨h.os,h.tape,h.output,h.size,fun k hk=>h.block k (by omega) (hB k hk)⟩
theorem AG.set {g j:Nat} {w:World} {v:Value}:AG (fun k=>k=g) w (w.setCell ⟨g,j,none⟩ v):=
 ⟨rfl,rfl,rfl,by simp,fun k _ hg=>Below.heap_setCell _ _ _ _ hg⟩
structure B0 (B:Nat) (w:World) (v:Value) (l:List Nod):Prop where
 rd:Ax w v l
 blk:∀q,v.ownBlock=some q->B<=q/\∃cs,w.heap[q]?=some (.cells cs 46 (0,0))
theorem B0.keep {B:Nat} {P:Nat->Prop} {w w':World} {v:Value} {l:List Nod} (h:B0 B w v l) (hk:AG P w w') (hP:∀q cs fr,w.heap[q]?=some (.cells cs 46 fr)->¬P q):B0 B w' v l:=by
 obtain⟨⟨A,c,hv,h1,h2,h3⟩,h4⟩:=h;subst hv;have key:∀q,(Value.slice A l.length c).ownBlock=some q->w'.heap[q]?=w.heap[q]?/\q<w'.heap.size:=by
  intro q hq;obtain⟨_,cs,hh⟩:=h4 q hq;have hlt:=(Array.getElem?_eq_some_iff.1 hh).1;exact⟨hk.block q hlt (hP q cs _ hh),Nat.lt_of_lt_of_le hlt hk.size⟩
 refine⟨⟨A,c,rfl,h1,h2,fun i t hi=>?_⟩,fun q hq=>?_⟩
 ·obtain⟨g,o,rfl,hg,c0,c1,c2,c3⟩:=h3 i t hi;obtain⟨e1,e2⟩:=key g rfl;have e:∀j,w'.cell? ⟨g,j,none⟩=w.cell? ⟨g,j,none⟩:=fun j=>World.cell?_of_block e1
  exact⟨g,o,rfl,e2,by rw[e,c0],by rw[e,c1],by rw[e,c2],by rw[e,c3]⟩
 ·obtain⟨hB,cs,hh⟩:=h4 q hq;exact⟨hB,cs,by rw[(key q hq).1];exact hh⟩
theorem B0.on {B:Nat} {w w':World} {v:Value} {l:List Nod} (h:B0 B w v l) (hb:Below w.heap.size w w'):B0 B w' v l:=h.keep (P:=fun _=>False) (AG.of hb) (fun _ _ _ _=>id)
theorem IU (B:Nat) (w:World):B0 B w (.slice none 0 0) []:=⟨⟨none,0,rfl,Nat.le_refl _,Nat.zero_le _,fun i t h=>by simp at h⟩,fun q h=>by simp[Value.ownBlock]at h⟩
theorem Bn.readE {w:World} {B B':Nat} {v:Value} {l:List Nod} (h:Bn w B v l) (hBB:B'<=B):B0 B' w v l:=by
 refine⟨h.read,fun q hq=>?_⟩;rcases h.2 with⟨rfl,_⟩|⟨g,cap,cur,rfl,hB,hh,_⟩
 ·simp[Value.ownBlock]at hq
 ·simp[Value.ownBlock]at hq;subst hq;exact⟨Nat.le_trans hBB hB,_,hh⟩
structure Src (L:List Tok) (W0:World) (lv:Value):Prop where
 toks:GX W0 lv L
 tabs:Tabs W0
 len:L.length<=10000
 small:Gf L
structure Dc (L:List Tok) (W0:World) (g:Nat) (lv:Value) (i d l m:Nat) (pl:Int) (K:List Sv) (kv:Value) (w:World):Prop where
 low:Below W0.heap.size W0 w
 gB:W0.heap.size<=g
 blk:w.heap[g]?=some (.cells #[lv,.int .i64 i,.int .i64 d,.int .i64 l,.int .i64 m,kv,.int .i64 pl] 255 (0,0))
 row:w.ownsRow W0.heap.size 44 9 kv K.length (Bc K)
 rds:∀x∈K,B0 W0.heap.size w x.vE x.s.e/\B0 W0.heap.size w x.vF x.s.f
 len:K.length=min m 40
 il:i<=L.length\/m=0
 mi:m<=i
 dd:d<=13
 ll:l<=d
def Mine (g:Nat) (kv:Value) (k:Nat):Prop:=k=g\/kv.ownBlock=some k
theorem Ik {w:World} {B:Nat} {v:Value} {n:Nat} {xs:List Value} (h:w.ownsRow B 44 9 v n xs):∀q,v.ownBlock=some q->B<=q/\∃cs,w.heap[q]?=some (.cells cs 44 (0,0)):=by
 intro q hq;rcases h.2 with⟨rfl,_⟩|⟨g',cap,cur,rfl,hB,hgg,_⟩
 ·simp[Value.ownBlock]at hq
 ·simp[Value.ownBlock]at hq;subst hq;exact⟨hB,cur,hgg⟩
theorem Ja {P:Nat->Prop} {w w':World} {B:Nat} {v:Value} {n:Nat} {xs:List Value} (h:w.ownsRow B 44 9 v n xs) (hk:AG P w w') (hP:∀q,v.ownBlock=some q->¬P q):w'.ownsRow B 44 9 v n xs:=by
 refine⟨h.1,?_⟩;rcases h.2 with h|⟨g',cap,cur,rfl,hB,hgg,r⟩
 ·exact .inl h
 ·exact .inr ⟨g',cap,cur,rfl,hB,by rw[hk.block g' (Array.getElem?_eq_some_iff.1 hgg).1 (hP g' rfl)];exact hgg,r⟩
section
variable {L:List Tok} {W0:World} {g:Nat} {lv:Value} {i d l m:Nat} {pl:Int} {K:List Sv} {kv:Value} {w:World}
theorem Dc.lt (h:Dc L W0 g lv i d l m pl K kv w):g<w.heap.size:=(Array.getElem?_eq_some_iff.1 h.blk).1
theorem Dc.own_ne (h:Dc L W0 g lv i d l m pl K kv w):∀q,kv.ownBlock=some q->q≠g/\q<w.heap.size/\W0.heap.size<=q:=by
 intro q hq;obtain⟨hB,cs,hh⟩:=Ik h.row q hq;refine⟨?_,(Array.getElem?_eq_some_iff.1 hh).1,hB⟩;rintro rfl;rw[h.blk]at hh;simp at hh
theorem Dc.mine_low (h:Dc L W0 g lv i d l m pl K kv w):∀k,k<W0.heap.size->¬Mine g kv k:=by
 rintro k hk (rfl|hq)
 ·have:=h.gB;omega
 ·have:=(h.own_ne k hq).2.2;omega
theorem Dc.mine_nodes (h:Dc L W0 g lv i d l m pl K kv w):∀q cs fr,w.heap[q]?=some (.cells cs 46 fr)->¬Mine g kv q:=by
 rintro q cs fr hh (rfl|hq)
 ·rw[h.blk]at hh;simp at hh
 ·obtain⟨_,cs',hh'⟩:=Ik h.row q hq;rw[hh']at hh;simp at hh
theorem Dc.c0 (h:Dc L W0 g lv i d l m pl K kv w):w.cell? ⟨g,0,none⟩=some lv:=by rw[Lib.cell_of_heap h.blk];rfl
theorem Dc.c1 (h:Dc L W0 g lv i d l m pl K kv w):w.cell? ⟨g,1,none⟩=some (.int .i64 i):=by rw[Lib.cell_of_heap h.blk];rfl
theorem Dc.c2 (h:Dc L W0 g lv i d l m pl K kv w):w.cell? ⟨g,2,none⟩=some (.int .i64 d):=by rw[Lib.cell_of_heap h.blk];rfl
theorem Dc.c3 (h:Dc L W0 g lv i d l m pl K kv w):w.cell? ⟨g,3,none⟩=some (.int .i64 l):=by rw[Lib.cell_of_heap h.blk];rfl
theorem Dc.c4 (h:Dc L W0 g lv i d l m pl K kv w):w.cell? ⟨g,4,none⟩=some (.int .i64 m):=by rw[Lib.cell_of_heap h.blk];rfl
theorem Dc.c5 (h:Dc L W0 g lv i d l m pl K kv w):w.cell? ⟨g,5,none⟩=some kv:=by rw[Lib.cell_of_heap h.blk];rfl
theorem Dc.c6 (h:Dc L W0 g lv i d l m pl K kv w):w.cell? ⟨g,6,none⟩=some (.int .i64 pl):=by rw[Lib.cell_of_heap h.blk];rfl
theorem Dc.fz (h:Dc L W0 g lv i d l m pl K kv w) (j:Nat):w.frozen? ⟨g,j,none⟩=false:=Lib.frozen_of_heap h.blk j
theorem Dc.put (h:Dc L W0 g lv i d l m pl K kv w) {w':World} {i' d' l' m':Nat} {pl':Int} (hk:AG (fun k=>k=g) w w') (hb:w'.heap[g]?=some (.cells #[lv,.int .i64 i',.int .i64 d',.int .i64 l',.int .i64 m',kv,.int .i64 pl'] 255 (0,0))) (hm:min m' 40=min m 40) (hi:i'<=L.length\/m'=0) (hmi:m'<=i') (hd:d'<=13) (hl:l'<=d'):Dc L W0 g lv i' d' l' m' pl' K kv w':=by
 have hg:=h.gB;refine⟨h.low.trans (hk.below (fun k hk e=>by omega) h.low.size),hg,hb,Ja h.row hk (fun q hq e=>(h.own_ne q hq).1 e),fun x hx=>?_,by rw[h.len,hm],hi,hmi,hd,hl⟩;obtain⟨h1,h2⟩:=h.rds x hx;have hn:∀q cs fr,w.heap[q]?=some (.cells cs 46 fr)->¬(q=g):=fun q cs fr hh e=>h.mine_nodes q cs fr hh (.inl e)
 exact⟨h1.keep hk hn,h2.keep hk hn⟩
theorem Af {j:Nat} {v:Value} {cs:Array Value} {T:TypeId} {fr:Nat×Nat} (h:w.heap[g]?=some (.cells cs T fr)):(w.setCell ⟨g,j,none⟩ v).heap[g]?=some (.cells (cs.setIfInBounds j v) T fr):=by
 simp[World.setCell,Array.getElem?_modify,h]
theorem Dc.set1 (h:Dc L W0 g lv i d l m pl K kv w) {j:Nat} (hj:j<=L.length) (hm:m<=j):Dc L W0 g lv j d l m pl K kv (w.setCell ⟨g,1,none⟩ (.int .i64 j)):=
 h.put AG.set (Af h.blk) rfl (.inl hj) hm h.dd h.ll
theorem Dc.set2 (h:Dc L W0 g lv i d l m pl K kv w) {j:Nat} (hj:j<=13) (hl:l<=j):Dc L W0 g lv i j l m pl K kv (w.setCell ⟨g,2,none⟩ (.int .i64 j)):=
 h.put AG.set (Af h.blk) rfl h.il h.mi hj hl
theorem Dc.set3 (h:Dc L W0 g lv i d l m pl K kv w) {j:Nat} (hl:j<=d):Dc L W0 g lv i d j m pl K kv (w.setCell ⟨g,3,none⟩ (.int .i64 j)):=
 h.put AG.set (Af h.blk) rfl h.il h.mi h.dd hl
theorem Dc.set6 (h:Dc L W0 g lv i d l m pl K kv w) (p:Int):Dc L W0 g lv i d l m p K kv (w.setCell ⟨g,6,none⟩ (.int .i64 p)):=
 h.put AG.set (Af h.blk) rfl h.il h.mi h.dd h.ll
theorem Dc.on (h:Dc L W0 g lv i d l m pl K kv w) {w':World} (hb:Below w.heap.size w w'):Dc L W0 g lv i d l m pl K kv w':=
 h.put (AG.of hb) (by rw[hb.block g h.lt];exact h.blk) rfl h.il h.mi h.dd h.ll
theorem Dc.toks (h:Dc L W0 g lv i d l m pl K kv w) (hs:Src L W0 lv):GX w lv L:=by
 obtain⟨A,c,hv,hc,hr⟩:=hs.toks;refine⟨A,c,hv,hc,fun i t hi=>?_⟩;obtain⟨b,hA,hb,h0,h1,h2,h3⟩:=hr i t hi;have e:∀j,w.cell? ⟨b,j,none⟩=W0.cell? ⟨b,j,none⟩:=fun j=>h.low.cell (p:=⟨b,j,none⟩) hb
 exact⟨b,hA,Nat.lt_of_lt_of_le hb h.low.size,by rw[e];exact h0,by rw[e];exact h1,by rw[e];exact h2,by rw[e];exact h3⟩
theorem Dc.tabs (h:Dc L W0 g lv i d l m pl K kv w) (hs:Src L W0 lv):Tabs w:=hs.tabs.on h.low
end
end Go.Proofs.YthfkpalfopdmhaaGreatDoor
namespace Go.Proofs.YthfkpalfopdmhaaGreatDoor
open Go.RowKit
theorem JI (b:Bk):b.deep<=b.count:=by
 induction b with
 |nil=>exact Nat.le_refl _
 |cons s b e r h1 h2 h3=>
  simp only[Bk.deep,Bk.count];split<;>omega
theorem EH {l:List UInt8} (h:nameB l=true):l.length<=16:=by
 unfold nameB at h;simp only[Bool.and_eq_true,decide_eq_true_eq]at h;exact h.1.1.1.2
theorem KA {l:List Nod} (h:Bm l=true):(CL l).length<=840:=by
 obtain⟨x,rfl,h1,h2,h3,h4,_⟩:=Gl h;rw[h4];exact SG h1 h3
theorem I4 {l:List Nod} (h:Bm l=true):l.length<=10000/\Ej l:=by
 obtain⟨x,rfl,h1,h2,h3,h4,_⟩:=Gl h;refine⟨by rw[Bt];omega,fun a ha=>?_⟩;have:=OF h1.2 a ha;omega
theorem QBy {x:Stm} (h:EY x=true):(NG x).length<=1800:=by
 obtain⟨k,hk,h1,h2⟩:=Ij h;obtain⟨_,_,_,hr,hn,he,hf,ht⟩:=La hk h;have hrl:x.reg.length<=16:=by
  split at hr
  ·exact EH hr
  ·rw[List.isEmpty_iff.1 hr];simp
 have hnl:x.name.length<=16:=by
  split at hn
  ·exact EH hn
  ·rw[List.isEmpty_iff.1 hn];simp
 have nil0:(CL []).length<=840:=by decide
 have hel:(CL x.e).length<=840:=by
  split at he
  ·exact KA he
  ·rw[List.isEmpty_iff.1 he];exact nil0
 have hfl:(CL x.f).length<=840:=by
  split at hf
  ·exact KA hf
  ·rw[List.isEmpty_iff.1 hf];exact nil0
 have kwl:∀k:Fin 15,(Jv (k.1:Nat)).length<=6:=by decide
 have kwk:(Jv x.kind).length<=6:=by rw[hk];exact kwl ⟨k,by omega⟩
 have k2:(Jv 2).length<=6:=by decide
 have k3:(Jv 3).length<=6:=by decide
 have k4:(Jv 4).length<=6:=by decide
 have k12:(Jv 12).length<=6:=by decide
 unfold NG;split
 ·simp only[List.length_append,List.length_cons,List.length_nil];omega
 split
 ·simp only[List.length_append,List.length_cons,List.length_nil];omega
 split
 ·simp only[List.length_append,List.length_cons,List.length_nil];omega
 split
 ·simp only[List.length_append,List.length_cons,List.length_nil];omega
 split
 ·simp only[List.length_append,List.length_cons];omega
 split
 ·rename_i h12
  have hkk:k=12:=by omega
  rw[if_pos hkk]at ht;have ht':1<=x.n/\x.n<=8:=by simpa using ht
  have hil:(Lib.itoa x.n).length<=20:=by
   obtain⟨u,hu⟩:∃u:Nat,x.n=u:=⟨x.n.toNat,by omega⟩
   rw[hu,Lib.itoa_nonneg,Rx (by omega)];simp
  simp only[List.length_append,List.length_cons];omega
 split
 ·omega
 ·simp only[List.length_append,List.length_cons];omega
theorem SI:∀(b:Bk) (ind:List UInt8),H5 b->(B7 ind b).length<=b.count*(3*ind.length+6*b.count+2000):=by
 intro b
 induction b with
 |nil=>intro ind _;simp[B7]
 |cons s b e r i1 i2 i3=>
  intro ind h;obtain⟨_,_,_,_,g1,g2,g3,g4⟩:=IT.1 h;have h1:=i1 (ind++[32,32]) g2;have h2:=i2 (ind++[32,32]) g3;have h3:=i3 ind g4;have hh:=QBy g1;have he:FW.length=4:=rfl;generalize hK:3*ind.length+6*(Bk.cons s b e r).count+2000=K;have hc:(Bk.cons s b e r).count=b.count+e.count+r.count+1:=rfl;have m1:(B7 (ind++[32,32]) b).length<=b.count*K:=Nat.le_trans h1 (Nat.mul_le_mul_left _ (by rw[List.length_append];simp only[List.length_cons,List.length_nil];omega))
  have m2:(B7 (ind++[32,32]) e).length<=e.count*K:=Nat.le_trans h2 (Nat.mul_le_mul_left _ (by rw[List.length_append];simp only[List.length_cons,List.length_nil];omega));have m3:(B7 ind r).length<=r.count*K:=Nat.le_trans h3 (Nat.mul_le_mul_left _ (by omega));rw[hc,Nat.add_mul,Nat.add_mul,Nat.add_mul,Nat.one_mul];have hK2:3*ind.length+2000<=K:=by omega
  unfold B7;split
  ·split
   ·simp only[List.length_append,List.length_cons,List.length_nil];omega
   ·simp only[List.length_append,List.length_cons,List.length_nil];omega
  ·simp only[List.length_append,List.length_cons,List.length_nil];omega
theorem LC {b:Bk} {ind:List UInt8} (h:H5 b) (hc:b.count<=40) (hi:ind.length<=100):(B7 ind b).length<=1000000:=by
 have h1:=SI b ind h;have h2:b.count*(3*ind.length+6*b.count+2000)<=40*(3*ind.length+6*b.count+2000):=Nat.mul_le_mul_right _ hc;omega
theorem QFe:(Tryz.prog.info? 93).map (fun i=>i.size)=some 2:=by kernel_rfl
set_option maxHeartbeats 1000000 in
set_option maxRecDepth 100000 in
theorem XM (b:Nat) (w:World) (h0:w.cell? ⟨b,0,none⟩=some (.pointer (some ⟨b,0,none⟩))):
  Calls Tryz.prog 114 #[.pointer (some ⟨b,0,none⟩)] w fun e w'=>e=.returned (.tuple #[])/\w'=w:=by
 obtain⟨j,hj,_⟩:=Option.map_eq_some_iff.1 QFe;go_enter Tryz.func114,Tryz.ntmps114
 go_wp2
 rw[Lib.run_neq_ptr_same w _ Tryz.underlying91 hj]
 go_wp2
 go_end0
 exact⟨rfl,rfl⟩
set_option maxHeartbeats 1000000 in
set_option maxRecDepth 100000 in
theorem Va (b:Nat) (w:World) (h0:w.cell? ⟨b,0,none⟩=some (.pointer none)) (hsh:w.shape? b=some (93,2)) (hfz:w.frozen? ⟨b,0,none⟩=false):
  Calls Tryz.prog 114 #[.pointer (some ⟨b,0,none⟩)] w fun e w'=>e=.returned (.tuple #[])/\w'=w.setCell ⟨b,0,none⟩ (.pointer (some ⟨b,0,none⟩)):=by
 obtain⟨j,hj,hjs⟩:=Option.map_eq_some_iff.1 QFe;go_enter Tryz.func114,Tryz.ntmps114
 go_wp2
 rw[Lib.run_to_unsafe w ⟨b,0,none⟩ Tryz.underlying91 Tryz.underlying176 hj (by rw[hjs];decide) hsh (Nat.zero_lt_succ 1)];simp only[Result.andThen];rw[Oper.upon_value]
 go_wp2
 rw[run_callFunc_extern Tryz.func164 (by kernel_rfl) (by kernel_rfl) (by kernel_rfl) (e:=Extern.AbiNoEscape.same) (by kernel_rfl)];rw[Lib.run_noEscape];simp only[Result.andThen];rw[Oper.upon_value]
 go_wp2
 rw[Lib.run_from_unsafe w ⟨b,0,none⟩ Tryz.underlying176 Tryz.underlying91 hj hsh (by kernel_rfl)];simp only[Result.andThen];rw[Oper.upon_value]
 go_wp2
 go_end0
 exact⟨rfl,rfl⟩
theorem check_any (B b:Nat) (bs:List Value) (w:World) (h:Lib.IsBuilder 93 5 B b bs w):
  Calls Tryz.prog 114 #[.pointer (some ⟨b,0,none⟩)] w fun e w'=>e=.returned (.tuple #[])/\(Lib.BuilderAt 93 5 B b (.pointer (some ⟨b,0,none⟩)) bs w'/\Below B w w'/\Lib.OthersKept 5 (some b) w w'):=by
 rcases h with h|h
 ·refine(Va b w h.cell0 h.shape h.frozen0).mono ?_;rintro e w' ⟨rfl,rfl⟩;exact⟨rfl,h.used _,(Below.refl B w).setCell (p:=⟨b,0,none⟩) h.1 _,(Lib.OthersKept.refl 5 (some b) w).setCell ⟨b,0,none⟩ rfl _⟩
 ·refine(XM b w h.cell0).mono ?_;rintro e w' ⟨rfl,rfl⟩;exact⟨rfl,h,Below.refl B _,Lib.OthersKept.refl 5 (some b) _⟩
theorem QB8 {w:World} {B:Nat} {e:TypeId} {v:Value} {n:Nat} {xs:List Value} (h:w.ownsRow B e 1 v n xs):∀g,v.ownBlock=some g->∃c fz,w.heap[g]?=some (.cells c e fz):=by
 intro g hg;rcases h.2 with⟨rfl,_⟩|⟨g',cap,cur,rfl,_,hgg,_⟩
 ·simp[Value.ownBlock]at hg
 ·simp[Value.ownBlock]at hg;subst hg;exact⟨cur,(0,0),hgg⟩
theorem infoByte:(Tryz.prog.info? 5).map (fun i=>(i.zero,i.size,i.bytes))=some (some (.int .u8 0),1,1):=by kernel_rfl
set_option maxHeartbeats 2000000 in
set_option maxRecDepth 100000 in
theorem write_any (B b:Nat) (bs:List Value) (s:ByteArray) (w:World) (h:Lib.IsBuilder 93 5 B b bs w) (hlen:bs.length+s.size<=140737488355328) (hBw:B<=w.heap.size):
  Calls Tryz.prog 56 #[.pointer (some ⟨b,0,none⟩),.string s] w fun e w'=>e=.returned (.tuple #[.int .i64 s.size,.nilIface])/\(Lib.BuilderAt 93 5 B b (.pointer (some ⟨b,0,none⟩)) (bs++Lib.strCells s) w'/\Below B w w'/\Lib.OthersKept 5 (some b) w w'):=by
 obtain⟨i0,hi,hz0,hz1,hz2⟩:=info_parts infoByte;go_enter Tryz.func56,Tryz.ntmps56;go_wp2_with (go_at_call 114;refine(check_any B b bs _ h).mono ?_)
 rintro e w1 ⟨rfl,h1,hb1,ho1⟩;obtain⟨hB,v,hbk,hown,hne⟩:=h1;have c0:w1.cell? ⟨b,0,none⟩=some (.pointer (some ⟨b,0,none⟩)):=by rw[Lib.cell_of_heap hbk];rfl
 have c1:w1.cell? ⟨b,1,none⟩=some v:=by rw[Lib.cell_of_heap hbk];rfl
 go_wp2_with (at_builtin;refine Lib.wpList_append_own_string _ rfl _ _ 51 9 rfl B 5 i0 Tryz.underlying51 Tryz.underlying9 hi hz0 hz1 hz2 _ _ _ rfl hown s rfl ?c3 ?c4 ?c5 ?_)
 case c3=>unfold maxLen;omega
 case c4=>omega
 case c5=>have:=hb1.size;omega
 intro v' w2 hown' hgrow _;have hlt:b<w1.heap.size:=by
  rcases Nat.lt_or_ge b w1.heap.size with h'|h'
  ·exact h'
  ·simp[Array.getElem?_eq_none h']at hbk
 have hb2:w2.heap[b]?=some (.cells #[.pointer (some ⟨b,0,none⟩),v] 93 (0,0)):=by
  rw[hgrow.block b hlt (fun e=>hne e.symm)];exact hbk
 have d0:w2.cell? ⟨b,0,none⟩=some (.pointer (some ⟨b,0,none⟩)):=by rw[Lib.cell_of_heap hb2];rfl
 have d1:w2.cell? ⟨b,1,none⟩=some v:=by rw[Lib.cell_of_heap hb2];rfl
 have f1:w2.frozen? ⟨b,1,none⟩=false:=Lib.frozen_of_heap hb2 1;obtain⟨ao,n',cap,rfl⟩:∃ao n' cap,v'=.slice ao n' cap:=by
  rcases hown'.2 with⟨hv,_⟩|⟨g,cap,cur,hv,_⟩
  ·exact⟨_,_,_,hv⟩
  ·exact⟨_,_,_,hv⟩
 go_wp2
 go_ret2
 refine⟨rfl,?_,?_,?_⟩
 ·exact Lib.BuilderAt.put (T:=93) (e:=5) hB hb2 (bs':=bs++Lib.strCells s) (by simpa[Lib.strCells_length]using hown') (by decide)
 ·exact(hb1.grown hgrow (by have:=hb1.size;omega) (fun k hk=>(hown.lt k hk).1)).setCell (p:=⟨b,1,none⟩) hB _
 ·exact(ho1.grown hgrow (QB8 hown)).setCell ⟨b,1,none⟩ rfl _
theorem ML {B b:Nat} {bs:List Value} {w w':World} (h:Lib.IsBuilder 93 5 B b bs w) (hb:Below w.heap.size w w'):Lib.IsBuilder 93 5 B b bs w':=by
 have key:∀p,Lib.BuilderAt 93 5 B b p bs w->Lib.BuilderAt 93 5 B b p bs w':=by
  rintro p ⟨h1,v,h2,h3,h4⟩;have hlt:b<w.heap.size:=(Array.getElem?_eq_some_iff.1 h2).1;refine⟨h1,v,by rw[hb.block b hlt];exact h2,⟨h3.1,?_⟩,h4⟩;rcases h3.2 with h|⟨g,cap,cur,q1,q2,q3,q4⟩
  ·exact .inl h
  ·exact .inr ⟨g,cap,cur,q1,q2,by rw[hb.block g (Array.getElem?_eq_some_iff.1 q3).1];exact q3,q4⟩
 rcases h with h|h
 ·exact .inl (key _ h)
 ·exact .inr (key _ h)
def T8 (B b n:Nat) (l:List UInt8) (w:World) (e:Ending) (w':World):Prop:=
 e=.returned (.tuple #[.int .i64 n,.nilIface])/\Lib.IsBuilder 93 5 B b (Lib.byteCells l) w'/\Below B w w'/\Lib.OthersKept 5 (some b) w w'
theorem ES (B b:Nat) (l s:List UInt8) (w:World) (h:Lib.IsBuilder 93 5 B b (Lib.byteCells l) w) (hlen:l.length+s.length<=1000000000) (hBw:B<=w.heap.size):
  Calls Tryz.prog 56 #[.pointer (some ⟨b,0,none⟩),.string ⟨s.toArray⟩] w (T8 B b s.length (l++s) w):=by
 refine(write_any B b (Lib.byteCells l) ⟨s.toArray⟩ w h ?_ hBw).mono ?_
 ·have:(⟨s.toArray⟩:ByteArray).size=s.length:=rfl;rw[Lib.byteCells_length,this];omega
 ·rintro e w' ⟨rfl,h1,h2,h3⟩;refine⟨rfl,.inr ?_,h2,h3⟩;have e1:Lib.byteCells (l++s)=Lib.byteCells l++Lib.strCells ⟨s.toArray⟩:=by simp[Lib.byteCells,Lib.strCells_toArray]
  rw[e1];exact h1
theorem Vd (x y:Stm):DT false x y=(x.kind==y.kind&&(x.reg==y.reg&&(x.name==y.name&&(E9 false x.e y.e&&(E9 false x.f y.f&&(x.n==y.n&&(x.body==y.body&&x.els==y.els))))))):=by
 unfold DT;cases x.kind==y.kind<;>cases x.reg==y.reg<;>cases x.name==y.name<;>cases x.n==y.n<;>cases x.body==y.body<;>cases x.els==y.els<;>cases E9 false x.e y.e<;>cases E9 false x.f y.f<;>rfl
set_option maxRecDepth 100000 in
set_option maxHeartbeats 8000000 in
theorem alike_any (x y:Stm) (vE vF uE uF:Value) (w:World) (hE:Ax w vE x.e) (hF:Ax w vF x.f) (kE:Ax w uE y.e) (kF:Ax w uF y.f) (hs:Fb x):Calls Tryz.prog 175 #[Rb x vE vF,Rb y uE uF] w (AK (DT false x y) w):=by
 have s3:=hs.2.2.1;have s4:=hs.2.2.2.1;clear hs;have HV:=AA (Vd x y);obtain⟨V,hV⟩:∃V,DT false x y=V:=⟨_,rfl⟩
 rw[hV];rw[hV]at HV;clear hV;obtain⟨k,reg,name,e,f,n,body,els,pl⟩:=x;obtain⟨k',reg',name',e',f',n',body',els',pl'⟩:=y;obtain⟨AE,cE,rfl,_⟩:=id hE;obtain⟨AF,cF,rfl,_⟩:=id hF;obtain⟨BE,dE,rfl,_⟩:=id kE;obtain⟨BF,dF,rfl,_⟩:=id kF;simp only at *;unfold Rb;simp only;have HB1:=AA ((Below.refl w.heap.size w).alloc (Nat.le_refl _) (.cells #[.int .i64 k,.string ⟨reg.toArray⟩,.string ⟨name.toArray⟩,.slice AE e.length cE,.slice AF f.length cF,.int .i64 n,.int .i64 body,.int .i64 els,.int .i64 pl] 44))
 have N1:=AA (Ea w (.int .i64 k) (.string ⟨reg.toArray⟩) (.string ⟨name.toArray⟩) (.slice AE e.length cE) (.slice AF f.length cF) (.int .i64 n) (.int .i64 body) (.int .i64 els) (.int .i64 pl) 44);go_enter Tryz.func175,Tryz.ntmps175;go_upto_region 1 with(fail)
 have hz:w.heap.size+1=(w.alloc (.cells #[.int .i64 k,.string ⟨reg.toArray⟩,.string ⟨name.toArray⟩,.slice AE e.length cE,.slice AF f.length cF,.int .i64 n,.int .i64 body,.int .i64 els,.int .i64 pl] 44)).heap.size:=by simp
 rw[hz];generalize w.alloc (.cells #[.int .i64 k,.string ⟨reg.toArray⟩,.string ⟨name.toArray⟩,.slice AE e.length cE,.slice AF f.length cF,.int .i64 n,.int .i64 body,.int .i64 els,.int .i64 pl] 44)=X at *;have HB2:=AA ((Below.refl X.heap.size X).alloc (Nat.le_refl _) (.cells #[.int .i64 k',.string ⟨reg'.toArray⟩,.string ⟨name'.toArray⟩,.slice BE e'.length dE,.slice BF f'.length dF,.int .i64 n',.int .i64 body',.int .i64 els',.int .i64 pl'] 44));have N2:=AA (Ea X (.int .i64 k') (.string ⟨reg'.toArray⟩) (.string ⟨name'.toArray⟩) (.slice BE e'.length dE) (.slice BF f'.length dF) (.int .i64 n') (.int .i64 body') (.int .i64 els') (.int .i64 pl') 44)
 have N1':=AA (N1.out.on HB2.out);generalize X.alloc (.cells #[.int .i64 k',.string ⟨reg'.toArray⟩,.string ⟨name'.toArray⟩,.slice BE e'.length dE,.slice BF f'.length dF,.int .i64 n',.int .i64 body',.int .i64 els',.int .i64 pl'] 44)=Y at *;have HB:=AA (AC HB1.out HB2.out);have RE:=AA (hE.on HB.out);have RF:=AA (hF.on HB.out);have QE:=AA (kE.on HB.out);have QF:=AA (kF.on HB.out);clear hE hF kE kF N1 HB1 HB2 hz;obtain⟨_,a0,a1,a2,a3,a4,a5,a6,a7,a8⟩:=N1'.out;obtain⟨_,b0,b1,b2,b3,b4,b5,b6,b7,b8⟩:=N2.out;cases e1:(k==k')with
 |false=>
  have HN:Hid (V=false):=AA (by rw[HV.out,e1];simp);go_wp2_with fail
  go_ret;exact⟨AH HN.out.symm,HB.out⟩
 |true=>
  cases e2:(reg==reg')with
  |false=>
   have HN:Hid (V=false):=AA (by rw[HV.out,e2];simp);go_wp2_with fail
   go_ret;exact⟨AH HN.out.symm,HB.out⟩
  |true=>
   cases e3:(name==name')with
   |false=>
    have HN:Hid (V=false):=AA (by rw[HV.out,e3];simp);go_wp2_with fail
    go_ret;exact⟨AH HN.out.symm,HB.out⟩
   |true=>
    go_wp2_with fail
    refine(QC _ _ e e' _ RE.out QE.out s3).mono ?_;cases e4:E9 false e e' with
    |false=>
     have HN:Hid (V=false):=AA (by rw[HV.out,e4];simp);rintro r1 w1 ⟨rfl,hb1⟩;go_wp2_with fail
     go_ret;exact⟨AH HN.out.symm,AC HB.out hb1⟩
    |true=>
     rintro r1 w1 ⟨rfl,hb1⟩;have HC1:=AA (hb1);clear hb1 a0 a1 a2 a3 a4 a5 a6 a7 a8 b0 b1 b2 b3 b4 b5 b6 b7 b8;obtain⟨_,a0,a1,a2,a3,a4,a5,a6,a7,a8⟩:=N1'.out.on HC1.out;obtain⟨_,b0,b1,b2,b3,b4,b5,b6,b7,b8⟩:=N2.out.on HC1.out;go_wp2_with fail
     refine(QC _ _ f f' _ (RF.out.on HC1.out) (QF.out.on HC1.out) s4).mono ?_;cases e5:E9 false f f' with
     |false=>
      have HN:Hid (V=false):=AA (by rw[HV.out,e5];simp);rintro r1 w2 ⟨rfl,hb2⟩;go_wp2_with fail
      go_ret;exact⟨AH HN.out.symm,AC (AC HB.out HC1.out) hb2⟩
     |true=>
      rintro r1 w2 ⟨rfl,hb2⟩;have HC2:=AA (AC HC1.out hb2);clear hb2 a0 a1 a2 a3 a4 a5 a6 a7 a8 b0 b1 b2 b3 b4 b5 b6 b7 b8;obtain⟨_,a0,a1,a2,a3,a4,a5,a6,a7,a8⟩:=N1'.out.on HC2.out;obtain⟨_,b0,b1,b2,b3,b4,b5,b6,b7,b8⟩:=N2.out.on HC2.out;cases e6:(n==n')with
      |false=>
       have HN:Hid (V=false):=AA (by rw[HV.out,e6];simp);go_wp2_with fail
       go_ret;exact⟨AH HN.out.symm,(AC HB.out HC2.out)⟩
      |true=>
       cases e7:(body==body')with
       |false=>
        have HN:Hid (V=false):=AA (by rw[HV.out,e7];simp);go_wp2_with fail
        go_ret;exact⟨AH HN.out.symm,(AC HB.out HC2.out)⟩
       |true=>
        have HN:Hid (V=(els==els')):=AA (by rw[HV.out,e1,e2,e3,e4,e5,e6,e7];simp);go_wp2_with fail
        go_ret;exact⟨AH HN.out.symm,(AC HB.out HC2.out)⟩
theorem A7 (w:World) (x y:Obj):Below w.heap.size w ((w.alloc x).alloc y):=
 ((Below.refl _ _).alloc (Nat.le_refl _) _).alloc (by simp) _
set_option maxRecDepth 100000 in
set_option maxHeartbeats 4000000 in
theorem XO (v1 v2:Value) (L M:List Stm) (w:World) (h1:BG w v1 L) (h2:BG w v2 M) (hl:L.length<=10000) (hsm:∀x∈L,Fb x):
  Calls Tryz.prog 174 #[v1,v2,.func (.func 175) #[] #[]] w (AK (MG false L M) w):=by
 have HR1:=AA h1;have HR2:=AA h2;have HSM:=AA hsm;obtain⟨A,c,rfl,hc,hm1,hr1⟩:=h1;obtain⟨A',c',rfl,hc',hm2,hr2⟩:=h2;clear hr1 hr2 hsm;by_cases hL:L.length=M.length
 ·rw[<-hL]at HR2 hc'⊢;have HL:=AA hL;have HM:=AA (show∀k,k<L.length->k<M.length by rw[hL];exact fun _ h=>h);clear hL;go_enter Tryz.func174,Tryz.ntmps174;go_wp2_with fail
  go_loopw [17] (fun i wr=>∃k:Nat,k<=L.length/\i=.int .i64 k/\Below w.heap.size w wr/\Ae (DT false) (L.take k) (M.take k)=true) (fun i _=>L.length-(intOf i).toNat)
  case atStart=>exact⟨0,Nat.zero_le _,rfl,Below.refl _ _,rfl⟩
  case round=>
   obtain⟨k,hk,rfl,hbel,hs⟩:=hrel;have HS:=AA hs;have HB:=AA hbel;have hsz:=hbel.size;clear hs;by_cases hlt:k<L.length
   ·have hkm:=HM.out k hlt;have ha:L[k]?=some L[k]:=List.getElem?_eq_getElem hlt;have hb:M[k]?=some (M[k]'hkm):=List.getElem?_eq_getElem hkm
    generalize L[k]=a at *;generalize M[k]'hkm=b at *
    have HSA:=AA (HSM.out a (List.mem_of_getElem? ha));obtain⟨A2,c2,hv,_,_,hr⟩:=HR1.out.on hbel;obtain⟨rfl,_,rfl⟩:A=A2/\True/\c=c2:=by simpa using hv
    obtain⟨A2',c2',hv',_,_,hr'⟩:=HR2.out.on hbel;obtain⟨rfl,rfl⟩:A'=A2'/\c'=c2':=by simp only[Value.slice.injEq]at hv';exact⟨hv'.1,hv'.2.2⟩
    obtain⟨g,o,AE,nE,cE,AF,nF,cF,rfl,h9⟩:=hr k a ha;obtain⟨g',o',BE,mE,dE,BF,mF,dF,rfl,k9⟩:=hr' k b hb;obtain⟨hg,x0,x1,x2,x3,x4,x5,x6,x7,x8,re,rf⟩:=h9;obtain⟨hg',y0,y1,y2,y3,y4,y5,y6,y7,y8,qe,qf⟩:=k9;have RE:=AA re;have RF:=AA rf;have QE:=AA qe;have QF:=AA qf;have HN:=AA (fun h=>DD (q:=DT false) ha hb h);have HY:=AA (Bz (q:=DT false) ha hb);clear ha hb hr hr' hv hv' hbel re rf qe qf;cases e1:DT false a b with
    |false=>
     have HE:=AA e1;clear e1;go_wp2_with fail
     refine(alike_any a b (.slice AE nE cE) (.slice AF nF cF) (.slice BE mE dE) (.slice BF mF dF) _ (RE.out.on (A7 _ _ _)) (RF.out.on (A7 _ _ _)) (QE.out.on (A7 _ _ _)) (QF.out.on (A7 _ _ _)) HSA.out).mono ?_;rw[HE.out];rintro e w1 ⟨rfl,hb⟩;have HB2:=AA (((HB.out.alloc hsz _).alloc (by simp;omega) _).trans (hb.mono (by simp;omega)));clear hb;go_wp2_with fail
     go_ret;exact⟨AH (HN.out HE.out).symm,HB2.out⟩
    |true=>
     have HE:=AA e1;clear e1;go_wp2_with fail
     refine(alike_any a b (.slice AE nE cE) (.slice AF nF cF) (.slice BE mE dE) (.slice BF mF dF) _ (RE.out.on (A7 _ _ _)) (RF.out.on (A7 _ _ _)) (QE.out.on (A7 _ _ _)) (QF.out.on (A7 _ _ _)) HSA.out).mono ?_;rw[HE.out];rintro e w1 ⟨rfl,hb⟩;have HB2:=AA (((HB.out.alloc hsz _).alloc (by simp;omega) _).trans (hb.mono (by simp;omega)));clear hb;go_wp2_with fail
     go_roundw;case rel=>exact⟨k+1,by omega,by go_num,HB2.out,by rw[HY.out,HS.out,HE.out];rfl⟩
     case measure=>simp[intOf];omega
   ·have HQ:=AA (Cb (q:=DT false) (by omega) HL.out HS.out);clear hbel;go_wp2_with fail
    go_ret;exact⟨AH HQ.out.symm,HB.out⟩
 ·have HQ:=AA (CZ (q:=DT false) hL);have hd:((L.length:Int) != (M.length:Int))=true:=by simp;omega
  clear hL;go_enter Tryz.func174,Tryz.ntmps174;go_wp2_with fail
  go_ret;exact⟨AH HQ.out.symm,Below.refl _ _⟩
theorem Z7 (v1 v2:Value) (L M:List Stm) (w:World) (h1:BG w v1 L) (h2:BG w v2 M) (hl:L.length<=10000) (hsm:∀x∈L,Fb x):Calls Tryz.prog 126 #[v1,v2] w (AK (MG false L M) w):=by
 have HR1:=AA h1;have HR2:=AA h2;clear h1 h2;go_enter Tryz.func126,Tryz.ntmps126;go_wp2_with fail
 refine(XO v1 v2 L M _ HR1.out HR2.out hl hsm).mono ?_;rintro e w1 ⟨rfl,hb⟩;go_wp2_with fail
 go_ret;exact⟨rfl,hb⟩
end Go.Proofs.YthfkpalfopdmhaaGreatDoor
namespace Go.Proofs.YthfkpalfopdmhaaGreatDoor
open Go
def Jw (l:List UInt8) (T:List Tok):Prop:=∀r a,∃T',T'.map Tok.bare=T/\AV (l++r) a=(AV r (a+l.length)).pre T'
def Sc (l:List UInt8) (T:List Tok):Prop:=∀r a,QH r->∃T',T'.map Tok.bare=T/\AV (l++r) a=(AV r (a+l.length)).pre T'
def Le (m:List UInt8):Prop:=∀r,QH (m++r)
theorem KF {c:UInt8} {m:List UInt8} (h:c=32\/c=41\/c=44\/c=59):Le (c::m):=by
 intro r;rcases h with rfl|rfl|rfl|rfl
 ·exact .inr (.inl ⟨_,rfl⟩)
 ·exact .inr (.inr (.inl ⟨_,rfl⟩))
 ·exact .inr (.inr (.inr (.inl ⟨_,rfl⟩)))
 ·exact .inr (.inr (.inr (.inr ⟨_,rfl⟩)))
theorem PP {l m:List UInt8} {T S:List Tok} {r:List UInt8} {a:Nat} (h1:∃T',T'.map Tok.bare=T/\AV (l++(m++r)) a=(AV (m++r) (a+l.length)).pre T') (h2:∃T',T'.map Tok.bare=S/\AV (m++r) (a+l.length)=(AV r (a+l.length+m.length)).pre T'):
  ∃T',T'.map Tok.bare=T++S/\AV ((l++m)++r) a=(AV r (a+(l++m).length)).pre T':=by
 obtain⟨T1,e1,s1⟩:=h1;obtain⟨T2,e2,s2⟩:=h2;refine⟨T1++T2,by rw[List.map_append,e1,e2],?_⟩;rw[List.append_assoc,s1,s2,TN,List.length_append,Nat.add_assoc]
theorem Jw.app {l m:List UInt8} {T S:List Tok} (h1:Jw l T) (h2:Jw m S):Jw (l++m) (T++S):=fun _ _=>PP (h1 _ _) (h2 _ _)
theorem Jw.appS {l m:List UInt8} {T S:List Tok} (h1:Jw l T) (h2:Sc m S):Sc (l++m) (T++S):=fun _ _ hr=>PP (h1 _ _) (h2 _ _ hr)
theorem Sc.app {l m:List UInt8} {T S:List Tok} (h1:Sc l T) (h2:Jw m S) (hm:Le m):Jw (l++m) (T++S):=fun r _=>PP (h1 _ _ (hm r)) (h2 _ _)
theorem Sc.appS {l m:List UInt8} {T S:List Tok} (h1:Sc l T) (h2:Sc m S) (hm:Le m):Sc (l++m) (T++S):=fun r _ hr=>PP (h1 _ _ (hm r)) (h2 _ _ hr)
theorem Jw.sc {l:List UInt8} {T:List Tok} (h:Jw l T):Sc l T:=fun r a _=>h r a
theorem OW:Jw [] []:=fun r a=>⟨[],rfl,by rw[List.nil_append,pre_nil _ (Ge _ _).1 (Ge _ _).2];rfl⟩
theorem EI {p:List UInt8} (h:p.all Eu=true):Jw p []:=fun r a=>⟨[],rfl,by rw[U0 p r a h,pre_nil _ (Ge _ _).1 (Ge _ _).2]⟩
def sg (c:UInt8):Tok:=⟨3,[c],0,0⟩
def wd (s:List UInt8):Tok:=⟨1,s,0,0⟩
theorem I7 {c:UInt8} (hc:c=123\/c=125\/c=59\/c=44):Jw [c] [sg c]:=by
 intro r a;have hcut:AZ (c::r)=⟨0,3,[c],0⟩:=by
  have hl:Ew c=false:=by rcases hc with rfl|rfl|rfl|rfl<;>decide
  have hd:digB c=false:=by rcases hc with rfl|rfl|rfl|rfl<;>decide
  rw[EO r hl hd];unfold Dm;have:Ey (c::r)=some [c]:=by
   unfold Ey Bg;rcases hc with rfl|rfl|rfl|rfl<;>simp[List.isPrefixOf]
  rw[this]
 have hb:Eu c=false:=by rcases hc with rfl|rfl|rfl|rfl<;>decide
 have h2:D8 (c::r)=false:=OH (by rcases hc with rfl|rfl|rfl|rfl<;>decide) _;exact⟨[⟨3,[c],0,a⟩],rfl,If (c:=c) (m:=[]) (r:=r) (k:=3) (n:=0) a hb h2 hcut⟩
theorem QGx:Jw [61,32] [sg 61]:=by
 intro r a;have hcut:AZ (61::32::r)=⟨0,3,[61],0⟩:=by
  rw[EO _ (by decide) (by decide)];unfold Dm;have:Ey (61::32::r)=some [61]:=by
   unfold Ey Bg;simp[List.isPrefixOf]
  rw[this]
 have h2:D8 (61::32::r)=false:=OH (by decide) _;refine⟨[⟨3,[61],0,a⟩],rfl,?_⟩;have:=If (c:=61) (m:=[]) (r:=32::r) (k:=3) (n:=0) a (by decide) h2 hcut;show AV (61::32::r) a=_;rw[show(61::32::r:List UInt8)=[61]++32::r from rfl,this,Bj _ _ (by decide)];rfl
theorem KG {l:List UInt8} (h:M3 l=true):Sc l [wd l]:=by
 intro r a hr;cases l with
 |nil=>exact absurd h (by decide)
 |cons c m=>
  unfold M3 at h;simp only[Bool.and_eq_true,decide_eq_true_eq]at h;obtain⟨⟨⟨_,h1⟩,h2⟩,h3⟩:=h;have hc:Ew c=true:=by simpa using h2
  have hcc:c.toNat=95\/(97<=c.toNat/\c.toNat<=122):=by unfold Ew at hc;simp at hc;omega
  have hb:Eu c=false:=by unfold Eu;simp;omega
  refine⟨[⟨1,c::m,0,a⟩],rfl,If a hb (OH (fun e=>by subst e;simp at hcc) _) ?_⟩;rw[List.cons_append,Ez _ hc,<-List.cons_append];unfold DY;rw[MH (by decide) (by decide) (by decide) (by decide) hr (c::m) h3,if_neg (by omega)]
theorem QAD {l:List UInt8} (h:nameB l=true):M3 l=true:=by
 rw[<-TO,h];rfl
theorem Gz {l:List UInt8} (h:nameB l=true):Sc l [wd l]:=KG (QAD h)
theorem QCG {n:Int} (h0:0<=n) (h1:n<=4294967296):Sc (Lib.itoa n) [⟨2,Lib.itoa n,n,0⟩]:=by
 intro r a hr;obtain⟨u,rfl⟩:∃u:Nat,n=u:=⟨n.toNat,by omega⟩
 rw[Lib.itoa_nonneg];exact⟨_,rfl,scan_num a (by omega) hr⟩
def Hf (l:List Nod):List Tok:=match Ft l with
 |some x=>BK false x
 |none=>[]
theorem Lh {l:List Nod} (h:Bm l=true):Sc (CL l) (Hf l):=by
 obtain⟨x,rfl,h1,h2,h3,h4,h5⟩:=Gl h;rw[h4];unfold Hf;rw[Jy h1.1];exact fun r a hr=>WZ x false r a h1 hr
def Hg (x:Stm):List Tok:=
 if x.kind=1 then[wd x.reg]++([sg 61]++Hf x.e)
 else if x.kind=2 then[wd (Jv 2)]++([wd x.reg]++([sg 61]++[wd x.name]))
 else if x.kind=3 then[wd (Jv 3)]++([wd x.name]++([sg 61]++Hf x.e))
 else if x.kind=4 then[wd (Jv 4)]++([wd x.reg]++([sg 61]++([wd x.name]++([sg 44]++(Hf x.e++([sg 44]++Hf x.f))))))
 else if x.kind=11\/x.kind=14 then[wd (Jv x.kind)]++Hf x.e
 else if x.kind=12 then[wd (Jv 12)]++[⟨2,Lib.itoa x.n,x.n,0⟩]
 else if x.kind=7\/x.kind=8\/x.kind=13 then[wd (Jv x.kind)]
 else[wd (Jv x.kind)]++[wd x.name]
theorem QEU:∀k:Fin 15,2<=k.1->M3 (CM.getD k.1 [])=true:=by decide
theorem Qk {k:Nat} (h1:2<=k) (h2:k<=14):Sc (Jv (k:Nat)) [wd (Jv (k:Nat))]:=by
 have:=QEU ⟨k,by omega⟩ h1;simp only at this;unfold Jv;rw[Int.toNat_natCast];exact KG this
theorem Ql:Jw [32,61,32] [sg 61]:=(EI (p:=[32]) (by decide)).app QGx
theorem Qm:Jw [44,32] [sg 44]:=by
 have:=(I7 (c:=44) (by simp)).app (EI (p:=[32]) (by decide));exact this
theorem Qn {l:List UInt8} {T:List Tok} (h:Sc l T):Sc (32::l) T:=(EI (p:=[32]) (by decide)).appS h
theorem LG (m:List UInt8):Le (32::m):=KF (.inl rfl)
theorem QF5 (m:List UInt8):Le (44::m):=KF (.inr (.inr (.inl rfl)))
theorem QF6 (m:List UInt8):Le (59::m):=KF (.inr (.inr (.inr rfl)))
theorem QEV {x:Stm} (h:EY x=true):Sc (NG x) (Hg x):=by
 obtain⟨k,hk,h1,h2⟩:=Ij h;obtain⟨_,_,_,hr,hn,he,hf,ht⟩:=La hk h;unfold NG Hg;rw[hk];have hkk:k=1\/k=2\/k=3\/k=4\/(k=11\/k=14)\/k=12\/(k=7\/k=8\/k=13)\/(k=5\/k=6\/k=9\/k=10):=by omega
 rcases hkk with rfl|rfl|rfl|rfl|h|rfl|h|h
 ·exact(Gz hr).appS (Ql.appS (Lh he)) (LG _)
 ·exact(Qk (k:=2) (by omega) (by omega)).appS (Qn ((Gz hr).appS (Ql.appS (Gz hn)) (LG _))) (LG _)
 ·exact(Qk (k:=3) (by omega) (by omega)).appS (Qn ((Gz hn).appS (Ql.appS (Lh he)) (LG _))) (LG _)
 ·exact(Qk (k:=4) (by omega) (by omega)).appS (Qn ((Gz hr).appS (Ql.appS ((Gz hn).appS (Qm.appS ((Lh he).appS (Qm.appS (Lh hf)) (QF5 _))) (QF5 _))) (LG _))) (LG _)
 ·rw[if_neg (by omega),if_neg (by omega),if_neg (by omega),if_neg (by omega),if_pos (by omega),if_neg (by omega),if_neg (by omega),if_neg (by omega),if_neg (by omega),if_pos (by omega)];rw[if_pos (by omega)]at he;exact(Qk (by omega) h2).appS (Qn (Lh he)) (LG _)
 ·have ht':1<=x.n/\x.n<=8:=by simpa using ht
  exact(Qk (k:=12) (by omega) (by omega)).appS (Qn (QCG (by omega) (by omega))) (LG _)
 ·rw[if_neg (by omega),if_neg (by omega),if_neg (by omega),if_neg (by omega),if_neg (by omega),if_neg (by omega),if_pos (by omega),if_neg (by omega),if_neg (by omega),if_neg (by omega),if_neg (by omega),if_neg (by omega),if_neg (by omega),if_pos (by omega)];exact Qk (by omega) h2
 ·rw[if_neg (by omega),if_neg (by omega),if_neg (by omega),if_neg (by omega),if_neg (by omega),if_neg (by omega),if_neg (by omega),if_neg (by omega),if_neg (by omega),if_neg (by omega),if_neg (by omega),if_neg (by omega),if_neg (by omega),if_neg (by omega)];rw[if_pos (by omega)]at hn;exact(Qk (by omega) h2).appS (Qn (Gz hn)) (LG _)
def Hh (T:List Tok) (n:Nat):List Tok:=if 0<n then wd FW::sg 123::(T++[sg 125])else[]
def Df:Bk->List Tok
 |.nil=>[]
 |.cons s b e r=>Hg s++((if Hq s.kind then sg 123::(Df b++(sg 125::Hh (Df e) e.count))else[sg 59])++Df r)
theorem Lj {l:List UInt8} {T T':List Tok} (h:Jw l T) (e:T=T'):Jw l T':=e▸h
theorem QCH:∀(b:Bk) (ind:List UInt8),H5 b->ind.all Eu=true->Jw (B7 ind b) (Df b):=by
 intro b
 induction b with
 |nil=>intro ind _ _;exact OW
 |cons s b e r i1 i2 i3=>
  intro ind h hi;obtain⟨_,_,_,_,g1,g2,g3,g4⟩:=IT.1 h;have hi2:(ind++[32,32]).all Eu=true:=by rw[List.all_append,hi];rfl
  have c1:=i1 _ g2 hi2;have c2:=i2 _ g3 hi2;have c3:=i3 _ g4 hi;have hd:=QEV g1;have hind:=EI hi;have nl:Jw [10] []:=EI (by decide);have ob:Jw [32,123,10] [sg 123]:=((EI (p:=[32]) (by decide)).app (I7 (c:=123) (by simp))).app nl;have cb:Jw [125,10] [sg 125]:=(I7 (c:=125) (by simp)).app nl;unfold B7 Df;split
  ·have ew:Jw ([125,32]++FW++[32,123,10]) [sg 125,wd FW,sg 123]:=
    Lj ((((I7 (c:=125) (by simp)).app (EI (p:=[32]) (by decide))).appS (KG (l:=FW) (by decide))).app ob (LG _)) rfl
   have mid:Jw ((if 0<e.count then ind++([125,32]++FW++[32,123,10])++B7 (ind++[32,32]) e else[])++(ind++[125,10])) (sg 125::Hh (Df e) e.count):=by
    unfold Hh;split
    ·exact Lj (((hind.app ew).app c2).app (hind.app cb)) (by simp)
    ·exact Lj (OW.app (hind.app cb)) (by simp)
   have all:=hind.app (hd.app ((ob.app (c1.app mid)).app c3) (LG _));exact Lj all (by simp)
  ·have semi:Jw [59,10] [sg 59]:=(I7 (c:=59) (by simp)).app nl;have all:=hind.app (hd.app (semi.app c3) (QF6 _));exact Lj all (by simp)
theorem MP {L:List Tok} {i b:Nat} {c:UInt8} {T:List Tok} (hc:c=59\/c=44\/c=123) (h:Ad L i (sg c::T)):Aw L b i=0:=by
 refine LY fun op ho _=>?_
 rw[Bh h];have key:∀op:Fin 16,(([59]:List UInt8)==Ar op)=false/\(([44]:List UInt8)==Ar op)=false/\(([123]:List UInt8)==Ar op)=false:=by decide
 have k:=key ⟨op,ho⟩;simp only at k;show(((3:Int)==1||(3:Int)==3)&&([c]==Ar op))=false;rcases hc with rfl|rfl|rfl
 ·rw[k.1];rfl
 ·rw[k.2.1];rfl
 ·rw[k.2.2];rfl
theorem QCI {x:Ex} (h:JV x) (hd:x.deep<=12) (hs:x.size<=40) {L:List Tok} {i:Nat} {c:UInt8} {R:List Tok} (hc:c=59\/c=44\/c=123) (hF:Ad L i (BK false x++sg c::R)):
  ∃l:List Nod,l.map bareN=x.flat.map bareN/\exprP L i=.ok l (i+(BK false x).length):=by
 have key:∃x' f,GF x'=GF x/\Ah L f 1 i 0=some (.ok x' (i+(BK false x).length)):=by
  cases x with
  |leaf a=>
   obtain⟨x',f,h1,h2⟩:=IE (.leaf a) L i 0 _ h hF (by omega);have hF2:=Ad.app (S:=BK true (.leaf a)) hF;obtain⟨f',hf'⟩:=J5 h2 5 1 (by omega) (by omega) (fun c' _ _=>MP hc hF2);exact⟨x',f',h1,hf'⟩
  |un a y=>
   obtain⟨x',f,h1,h2⟩:=IE (.un a y) L i 0 _ h hF (by omega);have hF2:=Ad.app (S:=BK true (.un a y)) hF;obtain⟨f',hf'⟩:=J5 h2 5 1 (by omega) (by omega) (fun c' _ _=>MP hc hF2);exact⟨x',f',h1,hf'⟩
  |bin a y z=>
   have hn:CW a=true:=Ig h;obtain⟨gx,gy⟩:=K3 h;have hop:=GN h.1.1;obtain⟨k,hk⟩:∃k:Nat,a.op=k:=⟨a.op.toNat,by omega⟩
   have hk2:BD (k:Int)=some 2:=by rw[<-hk];exact h.1.1
   have hkn:a.op.toNat=k:=by omega
   have e:BK false (.bin a y z)=BK true y++EP k::BK true z:=by simp[BK,hkn]
   have hF1:Ad L i (BK true y++(EP k::(BK true z++sg c::R))):=by rw[e]at hF;simpa using hF
   simp only[Ex.deep]at hd;obtain⟨y',f,hy',hf⟩:=IE y L i 0 _ gx hF1 (by omega);have hF2:=hF1.app;obtain⟨t2,_,_,hF3⟩:=Ad.head hF2;obtain⟨z',g,hz',hg⟩:=IE z L (i+(BK true y).length+1) 0 _ gy hF3 (by omega);have hF4:=hF3.app;obtain⟨f',hf'⟩:=VI hk2 hf hF2 hg (fun c' _=>MP hc hF4);refine⟨.bin ⟨k,0,[],plAt L (i+(BK true y).length)⟩ y' z',f',?_,?_⟩
   ·simp only[GF];rw[hy',hz',OJ hk (QJ hn (by
     intro e1;rw[e1]at hk;have:k=1:=by omega
     subst this;exact absurd hk2 (by decide)) (by
     intro e1;rw[e1]at hk;have:k=2:=by omega
     subst this;exact absurd hk2 (by decide)))]
   ·rw[hf',e];congr 2;simp only[List.length_append,List.length_cons];omega
 obtain⟨x',f,hx',hf⟩:=key;have hd':x'.deep=x.deep:=by rw[<-IR x',hx',IR]
 have hs':x'.size=x.size:=by rw[<-IS x',hx',IS]
 have hfl:x'.flat.map bareN=x.flat.map bareN:=by rw[<-Gk,hx',Gk]
 refine⟨x'.flat,hfl,?_⟩;unfold exprP;rw[JX,Y9 hf,QP (by omega) (by omega),if_pos rfl];show RS.ok x'.flat (((i+(BK false x).length:Nat):Int)).toNat=_;rw[Int.toNat_natCast]
theorem Ll {l:List Nod} (h:Bm l=true) {L:List Tok} {i:Nat} {c:UInt8} {R:List Tok} (hc:c=59\/c=44\/c=123) (hF:Ad L i (Hf l++sg c::R)):
  ∃l':List Nod,l'.map bareN=l.map bareN/\exprP L i=.ok l' (i+(Hf l).length):=by
 obtain⟨x,rfl,h1,h2,h3,_,_⟩:=Gl h;have e:Hf x.flat=BK false x:=by unfold Hf;rw[Jy h1.1]
 rw[e]at hF⊢;exact QCI h1 h2 h3 hc hF
theorem FV {L:List Tok} {i:Nat} {c:UInt8} {R:List Tok} (h:Ad L i (sg c::R)):Bo L i [c]=.ok () (i+1)/\Ad L (i+1) R:=by
 obtain⟨t,_,_,h3⟩:=Ad.head h;refine⟨?_,h3⟩;unfold Bo;rw[Bh h];simp[sg]
theorem G0 {L:List Tok} {i:Nat} {s:List UInt8} {R:List Tok} (hs:nameB s=true) (h:Ad L i (wd s::R)):Bd L i=.ok s (i+1)/\Ad L (i+1) R:=by
 obtain⟨t,h1,h2,h3⟩:=Ad.head h;refine⟨?_,h3⟩;have hk:t.kind=1:=by have:=congrArg Tok.kind h2;exact this
 have hv:t.text=s:=by have:=congrArg Tok.text h2;exact this
 unfold Bd nameAt;rw[h1];simp only;rw[if_pos ⟨hk,by rw[hv];exact hs⟩,hv]
theorem QCJ {L:List Tok} {i:Nat} {n:Int} {u:List UInt8} {R:List Tok} (hn:1<=n/\n<=8) (h:Ad L i (⟨2,u,n,0⟩::R)):EQ L i=.ok n (i+1)/\Ad L (i+1) R:=by
 obtain⟨t,h1,h2,h3⟩:=Ad.head h;refine⟨?_,h3⟩;have hk:t.kind=2:=by have:=congrArg Tok.kind h2;exact this
 have hv:t.n=n:=by have:=congrArg Tok.n h2;exact this
 unfold EQ;rw[h1];simp only;rw[if_pos hk,hv,if_pos hn]
theorem QEW:∀k:Fin 15,2<=k.1->((List.range 15).find? (fun j=>decide (2<=j)&&(CM.getD k.1 []==CM.getD j []))).getD 1=k.1:=by decide
theorem KH {L:List Tok} {i k:Nat} {R:List Tok} (h1:2<=k) (h2:k<=14) (h:Ad L i (wd (Jv (k:Nat))::R)):Aj L i=k/\isB L i [125]=false:=by
 have e:Jv (k:Nat)=CM.getD k []:=by unfold Jv;rw[Int.toNat_natCast]
 rw[e]at h;have hk:=QEW ⟨k,by omega⟩ h1;simp only at hk;refine⟨?_,?_⟩
 ·unfold Aj;have:(fun j=>decide (2<=j)&&isB L i (CM.getD j []))=(fun j=>decide (2<=j)&&(CM.getD k []==CM.getD j [])):=by
   funext j;rw[Bh h];simp[wd]
  rw[this];exact hk
 ·rw[Bh h];have key:∀k:Fin 15,2<=k.1->(CM.getD k.1 []==[125])=false:=by decide
  have:=key ⟨k,by omega⟩ h1;simp only at this;show(((1:Int)==1||(1:Int)==3)&&(CM.getD k []==[125]))=false;rw[this];rfl
theorem QEX:∀k:Fin 15,2<=k.1->JM (CM.getD k.1 [])=true:=by decide
theorem QAE {L:List Tok} {i:Nat} {s:List UInt8} {R:List Tok} (hs:nameB s=true) (h:Ad L i (wd s::R)):Aj L i=1/\isB L i [125]=false:=by
 have hne:∀k,2<=k->k<=14->(s==CM.getD k [])=false:=by
  intro k h1 h2;rw[beq_eq_false_iff_ne];intro e;have h3:=QEX ⟨k,by omega⟩ h1;simp only at h3;rw[<-e]at h3;have:=RU s;rw[hs,h3]at this;cases this
 refine⟨?_,?_⟩
 ·unfold Aj;have:(List.range 15).find? (fun j=>decide (2<=j)&&isB L i (CM.getD j []))=none:=by
   rw[List.find?_eq_none];intro j hj;rw[List.mem_range]at hj;rw[Bh h];by_cases h2:2<=j
   ·have:=hne j h2 (by omega);show¬((decide (2<=j)&&(((1:Int)==1||(1:Int)==3)&&(s==CM.getD j [])))=true);rw[this];simp
   ·simp[h2]
  rw[this];rfl
 ·rw[Bh h];obtain⟨c,m,hc,hl⟩:=MI hs;have:(s==[125])=false:=by
   rw[beq_eq_false_iff_ne,hc];intro e;simp at e;rw[e.1]at hl;exact absurd hl (by decide)
  show(((1:Int)==1||(1:Int)==3)&&(s==[125]))=false;rw[this];rfl
def bareS (s:Stm):Stm:={s with e:=s.e.map bareN,f:=s.f.map bareN,pl:=0}
def Im (s:Stm):Stm:={bareS s with body:=0,els:=0}
theorem UB {L:List Tok} {i:Nat} {T:List Tok} {c:UInt8} {R:List Tok} (h:Ad L i (T++sg c::R)):Ad L (i+T.length) (sg c::R):=h.app
theorem YQ {x:Stm} (h:EY x=true) {L:List Tok} {i:Nat} {c:UInt8} {R:List Tok} (hc:c=59\/c=44\/c=123) (hF:Ad L i (Hg x++sg c::R)):
  (Aj L i:Int)=x.kind/\isB L i [125]=false/\∃s,Im s=Im x/\s.kind=x.kind/\s.body=0/\s.els=0/\Ds L i=.ok s (i+(Hg x).length):=by
 obtain⟨k,hk,h1,h2⟩:=Ij h;obtain⟨_,_,_,hr,hn,he,hf,ht⟩:=La hk h;unfold Hg at hF⊢;rw[hk]at hF⊢;have hkk:k=1\/k=2\/k=3\/k=4\/(k=11\/k=14)\/k=12\/(k=7\/k=8\/k=13)\/(k=5\/k=6\/k=9\/k=10):=by omega
 obtain⟨xk,xr,xn,xe,xf,xm,xb,xl,xp⟩:=x;simp only at hk hr hn he hf ht hF⊢;rcases hkk with rfl|rfl|rfl|rfl|h|rfl|h|h
 ·have hn':xn=[]:=by simpa using hn
  have hf':xf=[]:=by simpa using hf
  have ht':xm=0:=by simpa using ht
  subst hk;subst hn';subst hf';subst ht';have hF:Ad L i (wd xr::(sg 61::(Hf xe++sg c::R))):=by simpa using hF
  obtain⟨k1,k2⟩:=QAE hr hF;obtain⟨a1,hF⟩:=G0 hr hF;obtain⟨a2,hF⟩:=FV hF;obtain⟨l,b1,a3⟩:=Ll he hc hF;refine⟨by rw[k1],k2,?_⟩;unfold Ds;rw[k1,if_pos rfl];refine⟨{GR 1 (AN L i)with reg:=xr,e:=l},by simp[Im,bareS,GR,b1],rfl,rfl,rfl,?_⟩;unfold Di;rw[if_pos rfl,a1,RS.bind_ok,a2,RS.bind_ok,a3,RS.bind_ok];congr 1;simp;omega
 ·have he':xe=[]:=by simpa using he
  have hf':xf=[]:=by simpa using hf
  have ht':xm=0:=by simpa using ht
  subst hk;subst he';subst hf';subst ht';have hF:Ad L i (wd (Jv (2:Nat))::(wd xr::(sg 61::(wd xn::sg c::R)))):=by simpa using hF
  obtain⟨k1,k2⟩:=KH (by omega) (by omega) hF;obtain⟨_,_,_,hF⟩:=Ad.head hF;obtain⟨a1,hF⟩:=G0 hr hF;obtain⟨a2,hF⟩:=FV hF;obtain⟨a3,hF⟩:=G0 hn hF;refine⟨by rw[k1],k2,?_⟩;unfold Ds;rw[k1,if_neg (by omega)];refine⟨{GR 2 (AN L i)with reg:=xr,name:=xn},by simp[Im,bareS,GR],rfl,rfl,rfl,?_⟩;unfold Di;rw[if_neg (by omega),if_pos rfl,a1,RS.bind_ok,a2,RS.bind_ok,a3,RS.bind_ok];rfl
 ·have hr':xr=[]:=by simpa using hr
  have hf':xf=[]:=by simpa using hf
  have ht':xm=0:=by simpa using ht
  subst hk;subst hr';subst hf';subst ht';have hF:Ad L i (wd (Jv (3:Nat))::(wd xn::(sg 61::(Hf xe++sg c::R)))):=by simpa using hF
  obtain⟨k1,k2⟩:=KH (by omega) (by omega) hF;obtain⟨_,_,_,hF⟩:=Ad.head hF;obtain⟨a1,hF⟩:=G0 hn hF;obtain⟨a2,hF⟩:=FV hF;obtain⟨l,b1,a3⟩:=Ll he hc hF;refine⟨by rw[k1],k2,?_⟩;unfold Ds;rw[k1,if_neg (by omega)];refine⟨{GR 3 (AN L i)with name:=xn,e:=l},by simp[Im,bareS,GR,b1],rfl,rfl,rfl,?_⟩;unfold Di;rw[if_neg (by omega),if_neg (by omega),if_pos rfl,a1,RS.bind_ok,a2,RS.bind_ok,a3,RS.bind_ok];congr 1;simp;omega
 ·have ht':xm=0:=by simpa using ht
  subst hk;subst ht';have hF:Ad L i (wd (Jv (4:Nat))::(wd xr::(sg 61::(wd xn::(sg 44::(Hf xe++sg 44::(Hf xf++sg c::R))))))):=by simpa using hF
  obtain⟨k1,k2⟩:=KH (by omega) (by omega) hF;obtain⟨_,_,_,hF⟩:=Ad.head hF;obtain⟨a1,hF⟩:=G0 hr hF;obtain⟨a2,hF⟩:=FV hF;obtain⟨a3,hF⟩:=G0 hn hF;obtain⟨a4,hF⟩:=FV hF;obtain⟨l,b1,a5⟩:=Ll he (.inr (.inl rfl)) hF;obtain⟨a6,hF⟩:=FV (UB hF);obtain⟨m,b2,a7⟩:=Ll hf hc hF;refine⟨by rw[k1],k2,?_⟩;unfold Ds;rw[k1,if_neg (by omega)];refine⟨{GR 4 (AN L i)with reg:=xr,name:=xn,e:=l,f:=m},by simp[Im,bareS,GR,b1,b2],rfl,rfl,rfl,?_⟩;unfold Di
  rw[if_neg (by omega),if_neg (by omega),if_neg (by omega),if_pos rfl,a1,RS.bind_ok,a2,RS.bind_ok,a3,RS.bind_ok,a4,RS.bind_ok,a5,RS.bind_ok,a6,RS.bind_ok,a7,RS.bind_ok];congr 1;simp;omega
 ·have hr':xr=[]:=by rw[if_neg (by omega)]at hr;simpa using hr
  have hn':xn=[]:=by rw[if_neg (by omega)]at hn;simpa using hn
  have hf':xf=[]:=by rw[if_neg (by omega)]at hf;simpa using hf
  have ht':xm=0:=by rw[if_neg (by omega)]at ht;simpa using ht
  rw[if_pos (by omega)]at he;subst hk;subst hr';subst hn';subst hf';subst ht';rw[if_neg (by omega),if_neg (by omega),if_neg (by omega),if_neg (by omega),if_pos (by omega)]at hF⊢;have hF:Ad L i (wd (Jv (k:Nat))::(Hf xe++sg c::R)):=by simpa using hF
  obtain⟨k1,k2⟩:=KH (by omega) (by omega) hF;obtain⟨_,_,_,hF⟩:=Ad.head hF;obtain⟨l,b1,a1⟩:=Ll he hc hF;refine⟨by rw[k1],k2,?_⟩;unfold Ds;rw[k1,if_neg (by omega)];refine⟨{GR k (AN L i)with e:=l},by simp[Im,bareS,GR,b1],rfl,rfl,rfl,?_⟩;unfold Di;rw[if_neg (by omega),if_neg (by omega),if_neg (by omega),if_neg (by omega),if_neg (by omega),if_pos (by omega),a1,RS.bind_ok];congr 1;simp;omega
 ·have hr':xr=[]:=by simpa using hr
  have hn':xn=[]:=by simpa using hn
  have he':xe=[]:=by simpa using he
  have hf':xf=[]:=by simpa using hf
  have ht':1<=xm/\xm<=8:=by simpa using ht
  subst hk;subst hr';subst hn';subst he';subst hf';have hF:Ad L i (wd (Jv (12:Nat))::(⟨2,Lib.itoa xm,xm,0⟩::sg c::R)):=by simpa using hF
  obtain⟨k1,k2⟩:=KH (by omega) (by omega) hF;obtain⟨_,_,_,hF⟩:=Ad.head hF;obtain⟨a1,hF⟩:=QCJ ht' hF;refine⟨by rw[k1],k2,?_⟩;unfold Ds;rw[k1,if_neg (by omega)];refine⟨{GR 12 (AN L i)with n:=xm},by simp[Im,bareS,GR],rfl,rfl,rfl,?_⟩;unfold Di;rw[if_neg (by omega),if_neg (by omega),if_neg (by omega),if_neg (by omega),if_neg (by omega),if_neg (by omega),if_pos rfl,a1,RS.bind_ok];rfl
 ·have hr':xr=[]:=by rw[if_neg (by omega)]at hr;simpa using hr
  have hn':xn=[]:=by rw[if_neg (by omega)]at hn;simpa using hn
  have he':xe=[]:=by rw[if_neg (by omega)]at he;simpa using he
  have hf':xf=[]:=by rw[if_neg (by omega)]at hf;simpa using hf
  have ht':xm=0:=by rw[if_neg (by omega)]at ht;simpa using ht
  subst hk;subst hr';subst hn';subst he';subst hf';subst ht';rw[if_neg (by omega),if_neg (by omega),if_neg (by omega),if_neg (by omega),if_neg (by omega),if_neg (by omega),if_pos (by omega)]at hF⊢;have hF:Ad L i (wd (Jv (k:Nat))::sg c::R):=by simpa using hF
  obtain⟨k1,k2⟩:=KH (by omega) (by omega) hF;refine⟨by rw[k1],k2,?_⟩;unfold Ds;rw[k1,if_neg (by omega)];refine⟨GR k (AN L i),by simp[Im,bareS,GR],rfl,rfl,rfl,?_⟩;unfold Di;rw[if_neg (by omega),if_neg (by omega),if_neg (by omega),if_neg (by omega),if_neg (by omega),if_neg (by omega),if_neg (by omega)];rfl
 ·have hr':xr=[]:=by rw[if_neg (by omega)]at hr;simpa using hr
  have he':xe=[]:=by rw[if_neg (by omega)]at he;simpa using he
  have hf':xf=[]:=by rw[if_neg (by omega)]at hf;simpa using hf
  have ht':xm=0:=by rw[if_neg (by omega)]at ht;simpa using ht
  rw[if_pos (by omega)]at hn;subst hk;subst hr';subst he';subst hf';subst ht';rw[if_neg (by omega),if_neg (by omega),if_neg (by omega),if_neg (by omega),if_neg (by omega),if_neg (by omega),if_neg (by omega)]at hF⊢;have hF:Ad L i (wd (Jv (k:Nat))::(wd xn::sg c::R)):=by simpa using hF
  obtain⟨k1,k2⟩:=KH (by omega) (by omega) hF;obtain⟨_,_,_,hF⟩:=Ad.head hF;obtain⟨a1,hF⟩:=G0 hn hF;refine⟨by rw[k1],k2,?_⟩;unfold Ds;rw[k1,if_neg (by omega)];refine⟨{GR k (AN L i)with name:=xn},by simp[Im,bareS,GR],rfl,rfl,rfl,?_⟩;unfold Di;rw[if_neg (by omega),if_neg (by omega),if_neg (by omega),if_neg (by omega),if_pos (by omega),a1,RS.bind_ok];rfl
def GI:Bk->Bk
 |.nil=>.nil
 |.cons s b e r=>.cons (bareS s) (GI b) (GI e) (GI r)
theorem FG (b:Bk):(GI b).count=b.count:=by
 induction b with
 |nil=>rfl
 |cons s b e r h1 h2 h3=>simp only[GI,Bk.count,h1,h2,h3]
theorem MQ {b b':Bk} (h:GI b'=GI b):b'.count=b.count:=by rw[<-FG,h,FG]
theorem KI (b:Bk):(GI b).flat=b.flat.map bareS:=by
 induction b with
 |nil=>rfl
 |cons s b e r h1 h2 h3=>simp only[GI,Bk.flat,h1,h2,h3,List.map_cons,List.map_append]
theorem XR (b:Bk):(GI b).deep=b.deep:=by
 induction b with
 |nil=>rfl
 |cons s b e r h1 h2 h3=>simp only[GI,Bk.deep,h1,h2,h3];rfl
theorem XS {x:Stm} (h:EY x=true):∃u T,Hg x=wd u::T/\(u==FW)=false:=by
 obtain⟨k,hk,h1,h2⟩:=Ij h;obtain⟨_,_,_,hr,hn,he,hf,ht⟩:=La hk h;have key:∀k:Fin 15,2<=k.1->(Jv (k.1:Nat)==FW)=false:=by decide
 have kw:2<=k->(Jv (k:Nat)==FW)=false:=fun h=>key ⟨k,by omega⟩ h
 unfold Hg;rw[hk];have hkk:k=1\/k=2\/k=3\/k=4\/(k=11\/k=14)\/k=12\/(k=7\/k=8\/k=13)\/(k=5\/k=6\/k=9\/k=10):=by omega
 rcases hkk with rfl|rfl|rfl|rfl|h|rfl|h|h
 ·refine⟨x.reg,_,rfl,?_⟩;have hr':nameB x.reg=true:=hr;rw[beq_eq_false_iff_ne];intro e;rw[e]at hr';exact absurd hr' (by decide)
 ·exact⟨_,_,rfl,kw (by omega)⟩
 ·exact⟨_,_,rfl,kw (by omega)⟩
 ·exact⟨_,_,rfl,kw (by omega)⟩
 ·rw[if_neg (by omega),if_neg (by omega),if_neg (by omega),if_neg (by omega),if_pos (by omega)];exact⟨_,_,rfl,kw (by omega)⟩
 ·exact⟨_,_,rfl,kw (by omega)⟩
 ·rw[if_neg (by omega),if_neg (by omega),if_neg (by omega),if_neg (by omega),if_neg (by omega),if_neg (by omega),if_pos (by omega)];exact⟨_,_,rfl,kw (by omega)⟩
 ·rw[if_neg (by omega),if_neg (by omega),if_neg (by omega),if_neg (by omega),if_neg (by omega),if_neg (by omega),if_neg (by omega)];exact⟨_,_,rfl,kw (by omega)⟩
theorem QCK {r:Bk} (h:H5 r) {L:List Tok} {i:Nat} {R:List Tok} (hF:Ad L i (Df r++sg 125::R)):isB L i FW=false:=by
 cases r with
 |nil=>
  have hF':Ad L i (sg 125::R):=hF;rw[Bh hF'];rfl
 |cons s b e r=>
  obtain⟨_,_,_,_,g,_⟩:=IT.1 h;obtain⟨u,T,e1,e2⟩:=XS g;unfold Df at hF;rw[e1]at hF;simp only[List.cons_append]at hF;rw[Bh hF];show(((1:Int)==1||(1:Int)==3)&&(u==FW))=false;rw[e2];rfl
theorem QEY {L:List Tok} {i:Nat} {R:List Tok} (hF:Ad L i (wd FW::R)):isB L i FW=true:=by
 rw[Bh hF];rfl
theorem Ve {L:List Tok} {f i d l n:Nat} {b:Bk} {T R:List Tok} (hd:d<=12) (hF:Ad L i (sg 123::(T++sg 125::R))) (hn:n=T.length) (hr:C7 L f (i+1) d l=some (.ok b (i+1+n))):
  CB (C7 L f) L i d l=some (.ok b (i+1+n+1))/\Ad L (i+1+n+1) R:=by
 obtain⟨a1,hF1⟩:=FV hF;have hF2:=hF1.app;rw[<-hn]at hF2;obtain⟨a2,hF3⟩:=FV hF2;refine⟨?_,hF3⟩;unfold CB;rw[if_neg (by omega),a1,RS.obind_ok,hr,RS.obind_ok,a2,RS.obind_ok]
theorem Vf {s x:Stm} (h:Im s=Im x) (h1:s.body=x.body) (h2:s.els=x.els):bareS s=bareS x:=by
 obtain⟨a1,a2,a3,a4,a5,a6,a7,a8,a9⟩:=s;obtain⟨b1,b2,b3,b4,b5,b6,b7,b8,b9⟩:=x;simp only[Im,bareS,Stm.mk.injEq]at h h1 h2⊢;simp[h,h1,h2]
theorem QAF {s:Stm} (m n:Int):Im {s with body:=m,els:=n}=Im s:=rfl
theorem QCL:∀(b:Bk) (L:List Tok) (i d l:Nat) (R:List Tok),H5 b->b.brk l=true->d+b.deep<=12->Ad L i (Df b++sg 125::R)->∃b' f,GI b'=GI b/\C7 L f i d l=some (.ok b' (i+(Df b).length)):=by
 intro b
 induction b with
 |nil=>
  intro L i d l R _ _ _ hF;have hF':Ad L i (sg 125::R):=hF;refine⟨.nil,1,rfl,?_⟩;rw[Dk,if_pos (by rw[Bh hF'];rfl)];rfl
 |cons s b e r i1 i2 i3=>
  intro L i d l R h hb hd hF;obtain⟨h1,h2,h3,h4,g1,g2,g3,g4⟩:=IT.1 h;simp only[Bk.brk,Bool.and_eq_true,Bool.or_eq_true,Bool.not_eq_true',decide_eq_true_eq,decide_eq_false_iff_not]at hb;obtain⟨⟨⟨b0,b1⟩,b2⟩,b3⟩:=hb;simp only[Bk.deep]at hd;unfold Df at hF⊢;by_cases hk:Hq s.kind
  ·rw[if_pos hk]at hF hd⊢;have hF:Ad L i (Hg s++sg 123::(Df b++sg 125::(Hh (Df e) e.count++(Df r++sg 125::R)))):=by simpa using hF
   obtain⟨k1,k2,s',p1,p2,p3,p4,p5⟩:=YQ g1 (.inr (.inr rfl)) hF;have hFb:=UB hF;obtain⟨_,_,_,hF1⟩:=Ad.head hFb;have hin:inL (Aj L i) l=if s.kind=12 then l+1 else l:=by
    unfold inL;by_cases hc:Aj L i=12
    ·rw[if_pos hc,if_pos (by omega)]
    ·rw[if_neg hc,if_neg (by omega)]
   rw[<-hin]at b1 b2;obtain⟨b',f1,q1,r1⟩:=i1 L _ (d+1) _ _ g2 b1 (by omega) hF1;obtain⟨w1,hF2⟩:=Ve (by omega) hFb rfl r1;have hkk:Hq (Aj L i:Nat):=by rw[k1];exact hk
   have key:∃e' f2 j,GI e'=GI e/\j=i+(Hg s).length+1+(Df b).length+1+(Hh (Df e) e.count).length/\EF (C7 L f2) L (Aj L i) (i+(Hg s).length+1+(Df b).length+1) (d+1) (inL (Aj L i) l)=some (.ok e' j)/\Ad L j (Df r++sg 125::R):=by
    by_cases hc:0<e.count
    ·have hk11:Aj L i=11:=by have:=h4 hc;omega
     have et:Hh (Df e) e.count=wd FW::sg 123::(Df e++[sg 125]):=by unfold Hh;rw[if_pos hc]
     rw[et]at hF2⊢;have hF3:Ad L (i+(Hg s).length+1+(Df b).length+1) (wd FW::(sg 123::(Df e++sg 125::(Df r++sg 125::R)))):=by simpa using hF2
     have ie:=QEY hF3;obtain⟨_,_,_,hF4⟩:=Ad.head hF3;obtain⟨_,_,_,hF5⟩:=Ad.head hF4;obtain⟨e',f2,q2,r2⟩:=i2 L _ (d+1) _ _ g3 b2 (by omega) hF5;obtain⟨w2,hF6⟩:=Ve (by omega) hF4 rfl r2;refine⟨e',f2,_,q2,?_,?_,hF6⟩
     ·simp only[List.length_cons,List.length_append,List.length_nil];omega
     ·unfold EF;rw[if_pos ⟨hk11,ie⟩];exact w2
    ·obtain rfl:e=.nil:=count_nil (by omega);have et:Hh (Df .nil) (Bk.count .nil)=[]:=rfl;rw[et]at hF2⊢;have hF3:Ad L (i+(Hg s).length+1+(Df b).length+1) (Df r++sg 125::R):=hF2;refine⟨.nil,0,_,rfl,rfl,?_,hF3⟩;unfold EF;rw[if_neg (by rw[QCK g4 hF3];simp)];rfl
   obtain⟨e',f2,j,q2,ej,w2,hF7⟩:=key;obtain⟨r',f3,q3,r3⟩:=i3 L j d l R g4 b3 (by omega) hF7;have m1:=Ih (Ii L (Nat.le_trans (Nat.le_max_left f1 f2) (Nat.le_max_left _ f3))) w1;have m2:=SH (Ii L (Nat.le_trans (Nat.le_max_right f1 f2) (Nat.le_max_left _ f3))) w2;have m3:=Ii L (Nat.le_max_right (max f1 f2) f3) _ _ _ _ r3;generalize max (max f1 f2) f3=F at m1 m2 m3;refine⟨.cons {s' with body:=b'.count,els:=e'.count} b' e' r',F+1,?_,?_⟩
   ·simp only[GI];rw[q1,q2,q3];congr 1;refine Vf ?_ ?_ ?_
    ·rw[QAF];exact p1
    ·show(b'.count:Int)=s.body;rw[h1,MQ q1]
    ·show(e'.count:Int)=s.els;rw[h2,MQ q2]
   ·rw[Dk,if_neg (by rw[k2];simp)];have one:G8 (C7 L F) L i d l=some (.ok ⟨{s' with body:=b'.count,els:=e'.count},b',e'⟩ j):=by
     unfold G8;rw[if_neg (by omega)];unfold Ds at p5;rw[p5,RS.obind_ok,if_neg (by simpa using hkk),m1,RS.obind_ok,m2,RS.obind_ok]
    rw[one,RS.obind_ok,m3,RS.obind_ok];congr 2;rw[ej];simp only[List.length_cons,List.length_append];omega
  ·rw[if_neg hk]at hF⊢;obtain rfl:b=.nil:=count_nil (by
    rcases Nat.eq_zero_or_pos b.count with h|h
    ·exact h
    ·exact absurd (h3 h) hk)
   obtain rfl:e=.nil:=count_nil (by
    rcases Nat.eq_zero_or_pos e.count with h|h
    ·exact h
    ·exact absurd (.inl (h4 h)) hk)
   have hF:Ad L i (Hg s++sg 59::(Df r++sg 125::R)):=by simpa using hF
   obtain⟨k1,k2,s',p1,p2,p3,p4,p5⟩:=YQ g1 (.inl rfl) hF;obtain⟨a1,hF1⟩:=FV (UB hF);obtain⟨r',f3,q3,r3⟩:=i3 L _ d l R g4 b3 (by omega) hF1;refine⟨.cons s' .nil .nil r',f3+1,?_,?_⟩
   ·simp only[GI];rw[q3];congr 1;exact Vf p1 (by rw[p3,h1];rfl) (by rw[p4,h2];rfl)
   ·rw[Dk,if_neg (by rw[k2];simp)];have one:G8 (C7 L f3) L i d l=some (.ok ⟨s',.nil,.nil⟩ (i+(Hg s).length+1)):=by
     unfold G8;rw[if_neg (by omega)];unfold Ds at p5;rw[p5,RS.obind_ok,if_pos (by rw[k1];exact hk),a1,RS.obind_ok]
    rw[one,RS.obind_ok,r3,RS.obind_ok];congr 2;simp only[List.length_cons,List.length_append,List.length_nil];omega
def Bk.app:Bk->Bk->Bk
 |.nil,c=>c
 |.cons s b e r,c=>.cons s b e (r.app c)
structure Cel where
 name:List UInt8
 n:Int
 pl:Int
deriving DecidableEq
structure Thr where
 name:List UInt8
 regs:List (List UInt8)
 body:List Stm
 pl:Int
deriving DecidableEq
structure Clm where
 e:List Nod
 pl:Int
deriving DecidableEq
structure Prg where
 lines:List (List Cel)
 vols:List Cel
 locks:List Cel
 threads:List Thr
 recs:List Thr
 claims:List Clm
deriving DecidableEq
def noPg:Prg:=⟨[],[],[],[],[],[]⟩
def OX (n:Int):Bool:=decide (0<=n)&&decide (n<=4000)
def BW:Int:=4294967296
def A9 (most:Int) (c:Cel):Bool:=nameB c.name&&decide (0<=c.n)&&decide (c.n<=most)&&OX c.pl
def Bv (named:Bool) (t:Thr):Bool:=(if named then nameB t.name else t.name.isEmpty)&&OX t.pl&&CP t.body&&t.regs.all nameB
def Eo (c:Clm):Bool:=OX c.pl&&Bm c.e
def EJ (l:List Cel):Bool:=!l.isEmpty&&l.all (A9 BW)
def BH (p:Prg):Bool:=p.lines.all EJ&&p.claims.all Eo&&p.vols.all (A9 BW)&&p.locks.all (A9 0)&&p.threads.all (Bv true)&&p.recs.all (Bv false)&&decide (p.recs.length<=1)
def DG:List UInt8:=[108,105,110,101]
def F7:List UInt8:=[118,111,108]
def Cf:List UInt8:=[108,111,99,107]
def BX:List UInt8:=[116,104,114,101,97,100]
def Az:List UInt8:=[114,101,99,111,118,101,114]
def Ak:List UInt8:=[97,108,119,97,121,115]
def Ip:List UInt8:=[114,101,103]
def ET (c:Cel):List UInt8:=c.name++(if c.n=0 then[]else[32,61,32]++Lib.itoa c.n)
def Ly:List Cel->List UInt8
 |[]=>[]
 |[c]=>ET c
 |c::d::l=>ET c++([44,32]++Ly (d::l))
def rowT (w:List UInt8) (l:List Cel):List UInt8:=w++(32::(Ly l++[59,10]))
def namesT:List (List UInt8)->List UInt8
 |[]=>[]
 |[c]=>c
 |c::d::l=>c++([44,32]++namesT (d::l))
def SQ (l:List (List UInt8)):List UInt8:=if l.isEmpty then[]else[32,32]++(Ip++(32::(namesT l++[59,10])))
def bodyT (l:List Stm):List UInt8:=match Dp l with
 |some b=>B7 [32,32] b
 |none=>[]
def B8 (head:List UInt8) (t:Thr):List UInt8:=head++([32,123,10]++(SQ t.regs++(bodyT t.body++[125,10])))
def IG (t:Thr):List UInt8:=B8 (BX++(32::t.name)) t
def KJ (c:Clm):List UInt8:=Ak++(32::(CL c.e++[59,10]))
def Nc (w:List UInt8) (l:List Cel):List UInt8:=if l.isEmpty then[]else rowT w l
def BQ (p:Prg):List UInt8:=p.lines.flatMap (rowT DG)++(Nc F7 p.vols++(Nc Cf p.locks++(p.threads.flatMap IG++(p.recs.flatMap (B8 Az)++p.claims.flatMap KJ))))
def JJ (p:Prg):List UInt8:=if BH p=true then BQ p else[]
def CG (pl:Bool) (a b:Cel):Bool:=a.name==b.name&&a.n==b.n&&(!pl||a.pl==b.pl)
def CH (pl:Bool) (a b:Thr):Bool:=a.name==b.name&&Ot a.regs b.regs&&MG pl a.body b.body&&(!pl||a.pl==b.pl)
def GT (pl:Bool) (a b:Clm):Bool:=E9 pl a.e b.e&&(!pl||a.pl==b.pl)
def KL (pl:Bool) (p q:Prg):Bool:=Ae (Ae (CG pl)) p.lines q.lines&&Ae (CG pl) p.vols q.vols&&Ae (CG pl) p.locks q.locks&&Ae (CH pl) p.threads q.threads&&Ae (CH pl) p.recs q.recs&&Ae (GT pl) p.claims q.claims
def bareCel (c:Cel):Cel:={c with pl:=0}
def CJ (t:Thr):Thr:={t with body:=t.body.map bareS,pl:=0}
def EU (c:Clm):Clm:=⟨c.e.map bareN,0⟩
def Dv (p:Prg):Prg:=⟨p.lines.map (·.map bareCel),p.vols.map bareCel,p.locks.map bareCel,p.threads.map CJ,p.recs.map CJ,p.claims.map EU⟩
def numAt (L:List Tok) (i:Nat):Option Int:=match L[i]? with
 |some t=>if t.kind=2 then some t.n else none
 |none=>none
def GW (num:Bool) (L:List Tok) (i:Nat):RS Cel:=(Bd L i).bind fun s j=>
 if num=true/\isB L j [61]=true then(match numAt L (j+1)with
  |some n=>.ok ⟨s,n,AN L i⟩ (j+2)
  |none=>badR L (j+1) 5)
 else .ok ⟨s,0,AN L i⟩ j
def Be (num:Bool) (L:List Tok):Nat->Nat->Option (RS (List Cel))
 |0,_=>none
 |f+1,i=>RS.obind (some (GW num L i)) fun c j=>
  if isB L j [44]=true then RS.obind (Be num L f (j+1)) fun r k=>some (.ok (c::r) k)
  else RS.obind (some (Bo L j [59])) fun _ k=>some (.ok [c] k)
def Hi (L:List Tok) (f i opn:Nat):Option (RS (List Stm)):=RS.obind (C7 L f i 0 0) fun b j=>RS.obind (some (Bo L j [125])) fun _ k=>
 if 40<b.count then some (.bad 2 (AN L opn))else some (.ok b.flat k)
def IC (L:List Tok) (f i:Nat):Option (RS (List (List UInt8))):=if isB L i Ip=true then RS.obind (Be false L f (i+1)) fun l k=>some (.ok (l.map (·.name)) k)else some (.ok [] i)
def Kp (L:List Tok) (f i:Nat) (name:List UInt8) (pl:Int):Option (RS Thr):=RS.obind (some (Bo L i [123])) fun _ j=>RS.obind (IC L f j) fun rs k=>RS.obind (Hi L f k i) fun b m=>some (.ok ⟨name,rs,b,pl⟩ m)
def FH (L:List Tok) (i:Nat) (pl:Int):RS Clm:=(exprP L i).bind fun e j=>(Bo L j [59]).bind fun _ k=>.ok ⟨e,pl⟩ k
def CC {α:Type} (L:List Tok) (kw:List UInt8) (p:Nat->Option (RS α)):Nat->Nat->Option (RS (List α))
 |0,_=>none
 |f+1,i=>if isB L i kw=true then RS.obind (p i) fun a j=>RS.obind (CC L kw p f j) fun r k=>some (.ok (a::r) k)else some (.ok [] i)
def UC (L:List Tok) (f i:Nat):Option (RS (List (List Cel))):=CC L DG (fun i=>Be true L f (i+1)) f i
def YR (L:List Tok) (f i:Nat):Option (RS (List (List Cel))):=CC L F7 (fun i=>Be true L f (i+1)) f i
def UD (L:List Tok) (f i:Nat):Option (RS (List (List Cel))):=CC L Cf (fun i=>Be false L f (i+1)) f i
def Dz (L:List Tok) (f i:Nat):Option (RS Thr):=RS.obind (some (Bd L (i+1))) fun s j=>Kp L f j s (AN L (i+1))
def Nh (L:List Tok) (f i:Nat):Option (RS (List Thr)):=CC L BX (Dz L f) f i
def LH (L:List Tok) (f i:Nat):Option (RS (List Thr)):=if isB L i Az=true then RS.obind (Kp L f (i+1) [] (AN L i)) fun t j=>some (.ok [t] j)else some (.ok [] i)
def PQ (L:List Tok) (f i:Nat):Option (RS (List Clm)):=CC L Ak (fun i=>some (FH L (i+1) (AN L i))) f i
def OY (L:List Tok) (i:Nat) (p:Prg):RS Prg:=if i<L.length then badR L i 5 else .ok p i
def I8 (L:List Tok) (f:Nat):Option (RS Prg):=
 RS.obind (UC L f 0) fun ls i1=>RS.obind (YR L f i1) fun vs i2=>RS.obind (UD L f i2) fun ks i3=>RS.obind (Nh L f i3) fun ts i4=>RS.obind (LH L f i4) fun rs i5=>RS.obind (PQ L f i5) fun cs i6=>
  some (OY L i6 ⟨ls,vs.flatten,ks.flatten,ts,rs,cs⟩)
structure ParsedP where
 p:Prg
 err:Int
 pl:Int
def O8:RS Prg->ParsedP
 |.ok p _=>⟨p,0,0⟩
 |.bad e pl=>⟨noPg,e,pl⟩
def EN (s:List UInt8):ParsedP:=if 4000<s.length then⟨noPg,2,4000⟩
 else if(AV s 0).err=0 then O8 ((I8 (AV s 0).toks ((AV s 0).toks.length+1)).getD (.bad 0 0))else⟨noPg,(AV s 0).err,(AV s 0).pl⟩
def DJ (c:Cel):List Tok:=wd c.name::(if c.n=0 then[]else[sg 61,⟨2,Lib.itoa c.n,c.n,0⟩])
def Ee:List Cel->List Tok
 |[]=>[]
 |[c]=>DJ c
 |c::d::l=>DJ c++(sg 44::Ee (d::l))
def Da (w:List UInt8) (l:List Cel):List Tok:=wd w::(Ee l++[sg 59])
def Jl (w:List UInt8) (l:List Cel):List Tok:=if l.isEmpty then[]else Da w l
def SR (l:List (List UInt8)):List Tok:=Ee (l.map fun s=>⟨s,0,0⟩)
def Nk (l:List (List UInt8)):List Tok:=if l.isEmpty then[]else wd Ip::(SR l++[sg 59])
def FK (l:List Stm):List Tok:=match Dp l with
 |some b=>Df b
 |none=>[]
def Jm (t:Thr):List Tok:=sg 123::(Nk t.regs++(FK t.body++[sg 125]))
def CU (t:Thr):List Tok:=wd BX::(wd t.name::Jm t)
def D7 (t:Thr):List Tok:=wd Az::Jm t
def BC (c:Clm):List Tok:=wd Ak::(Hf c.e++[sg 59])
def Hy (p:Prg):List Tok:=p.lines.flatMap (Da DG)++(Jl F7 p.vols++(Jl Cf p.locks++(p.threads.flatMap CU++(p.recs.flatMap D7++p.claims.flatMap BC))))
theorem Ln {most:Int} {c:Cel} (h:A9 most c=true):nameB c.name=true/\0<=c.n/\c.n<=most/\0<=c.pl/\c.pl<=4000:=by
 unfold A9 OX at h;simp only[Bool.and_eq_true,decide_eq_true_eq]at h;exact⟨h.1.1.1,h.1.1.2,h.1.2,h.2.1,h.2.2⟩
theorem Is {c:Cel} (h:A9 0 c=true):A9 BW c=true:=by
 unfold A9 at *;simp only[Bool.and_eq_true,decide_eq_true_eq]at *;exact⟨⟨h.1.1,by unfold BW;omega⟩,h.2⟩
theorem QCM {c:Cel} (h:A9 BW c=true):Sc (ET c) (DJ c):=by
 obtain⟨h1,h2,h3,_⟩:=Ln h;unfold ET DJ;split
 ·rw[List.append_nil];exact Gz h1
 ·exact(Gz h1).appS (Ql.appS (QCG h2 h3)) (LG _)
theorem YT:∀l:List Cel,l.all (A9 BW)=true->Sc (Ly l) (Ee l)
 |[],_=>OW.sc
 |[c],h=>by
  simp only[List.all_cons,List.all_nil,Bool.and_true]at h;exact QCM h
 |c::d::l,h=>by
  rw[List.all_cons,Bool.and_eq_true]at h;exact(QCM h.1).appS (Qm.appS (YT (d::l) h.2)) (QF5 _)
theorem YU:Jw [59,10] [sg 59]:=Lj ((I7 (c:=59) (by simp)).app (EI (p:=[10]) (by decide))) rfl
theorem XY {w:List UInt8} (hw:M3 w=true) {l:List Cel} (h:l.all (A9 BW)=true):Jw (rowT w l) (Da w l):=by
 have h1:=(YT l h).app YU (QF6 _);have h2:=(EI (p:=[32]) (by decide)).app h1;exact(KG hw).app h2 (LG _)
theorem Nl {α:Type} {f:α->List UInt8} {g:α->List Tok}:∀l:List α,(∀a∈l,Jw (f a) (g a))->Jw (l.flatMap f) (l.flatMap g)
 |[],_=>OW
 |a::l,h=>by
  rw[List.flatMap_cons,List.flatMap_cons];exact(h a (by simp)).app (Nl l fun b hb=>h b (by simp[hb]))
theorem YV {w:List UInt8} (hw:M3 w=true) {l:List Cel} (h:l.all (A9 BW)=true):Jw (Nc w l) (Jl w l):=by
 unfold Nc Jl;split
 ·exact OW
 ·exact XY hw h
theorem Qo:∀l:List (List UInt8),namesT l=Ly (l.map fun s=>⟨s,0,0⟩)
 |[]=>rfl
 |[c]=>by simp[namesT,Ly,ET]
 |c::d::l=>by
  have:=Qo (d::l);simp only[List.map_cons]at this⊢;unfold namesT Ly;rw[this];simp[ET]
theorem Vj {l:List (List UInt8)} (h:l.all nameB=true):(l.map fun s=>(⟨s,0,0⟩:Cel)).all (A9 0)=true:=by
 rw[List.all_map,List.all_eq_true]at *;intro s hs;have:=h s hs;simp[A9,OX,this]
theorem QEZ {l:List (List UInt8)} (h:l.all nameB=true):Jw (SQ l) (Nk l):=by
 unfold SQ Nk SR;split
 ·exact OW
 ·have h0:(l.map fun s=>(⟨s,0,0⟩:Cel)).all (A9 BW)=true:=by
   have:=Vj h;rw[List.all_eq_true]at *;exact fun c hc=>Is (this c hc)
  rw[Qo];exact(EI (p:=[32,32]) (by decide)).app (XY (w:=Ip) (by decide) h0)
theorem Jn {named:Bool} {t:Thr} (h:Bv named t=true):(if named then nameB t.name else t.name.isEmpty)=true/\0<=t.pl/\t.pl<=4000/\CP t.body=true/\t.regs.all nameB=true:=by
 unfold Bv OX at h;simp only[Bool.and_eq_true,decide_eq_true_eq]at h;exact⟨h.1.1.1,h.1.1.2.1,h.1.1.2.2,h.1.2,h.2⟩
theorem QEa {l:List Stm} (h:CP l=true):Jw (bodyT l) (FK l):=by
 obtain⟨b,rfl,g1,g2,g3,g4,g5⟩:=Dq h;unfold bodyT FK;rw[g5];exact QCH b [32,32] g1 (by decide)
theorem QCN {head:List UInt8} {T:List Tok} {named:Bool} {t:Thr} (hh:Sc head T) (h:Bv named t=true):Jw (B8 head t) (T++Jm t):=by
 obtain⟨_,_,_,h4,h5⟩:=Jn h;have nl:Jw [10] []:=EI (by decide);have ob:Jw [32,123,10] [sg 123]:=((EI (p:=[32]) (by decide)).app (I7 (c:=123) (by simp))).app nl;have cb:Jw [125,10] [sg 125]:=(I7 (c:=125) (by simp)).app nl;exact hh.app (ob.app ((QEZ h5).app ((QEa h4).app cb))) (LG _)
theorem QAK {t:Thr} (h:Bv true t=true):Jw (IG t) (CU t):=by
 have h1:=(Jn h).1;exact QCN (T:=[wd BX,wd t.name]) ((KG (l:=BX) (by decide)).appS (Qn (Gz h1)) (LG _)) h
theorem QF7 {t:Thr} (h:Bv false t=true):Jw (B8 Az t) (D7 t):=QCN (T:=[wd Az]) (KG (l:=Az) (by decide)) h
theorem QCO {c:Clm} (h:Eo c=true):Jw (KJ c) (BC c):=by
 unfold Eo at h;rw[Bool.and_eq_true]at h;have h1:=(Lh h.2).app YU (QF6 _);have h2:=(EI (p:=[32]) (by decide)).app h1;exact(KG (l:=Ak) (by decide)).app h2 (LG _)
theorem LK {p:Prg} (h:BH p=true):p.lines.all EJ=true/\p.claims.all Eo=true/\p.vols.all (A9 BW)=true/\p.locks.all (A9 0)=true/\p.threads.all (Bv true)=true/\p.recs.all (Bv false)=true/\p.recs.length<=1:=by
 unfold BH at h;simp only[Bool.and_eq_true,decide_eq_true_eq]at h;exact⟨h.1.1.1.1.1.1,h.1.1.1.1.1.2,h.1.1.1.1.2,h.1.1.1.2,h.1.1.2,h.1.2,h.2⟩
theorem UI {p:Prg} (h:BH p=true):Jw (BQ p) (Hy p):=by
 obtain⟨h1,h2,h3,h4,h5,h6,_⟩:=LK h;rw[List.all_eq_true]at h1 h2 h5 h6;have h4':p.locks.all (A9 BW)=true:=by
  rw[List.all_eq_true]at *;exact fun c hc=>Is (h4 c hc)
 refine(Nl _ fun l hl=>?_).app ((YV (by decide) h3).app ((YV (by decide) h4').app ((Nl _ fun t ht=>QAK (h5 t ht)).app ((Nl _ fun t ht=>QF7 (h6 t ht)).app (Nl _ fun c hc=>QCO (h2 c hc))))));have:=h1 l hl;unfold EJ at this;rw[Bool.and_eq_true]at this;exact XY (by decide) this.2
theorem Ad.le {L:List Tok} {i:Nat} {t:Tok} {T:List Tok} (h:Ad L i (t::T)):i<L.length:=by
 obtain⟨t',h1,_⟩:=h.head;exact(List.getElem?_eq_some_iff.1 h1).1
def Bi (ks:List (List UInt8)) (R:List Tok):Prop:=R=[]\/∃k∈ks,∃T,R=wd k::T
theorem EL {ks:List (List UInt8)} {R:List Tok} (h:Bi ks R) {kw:List UInt8} (hk:kw∉ks) {L:List Tok} {i:Nat} (hF:Ad L i R):isB L i kw=false:=by
 rcases h with rfl|⟨k,hks,T,rfl⟩
 ·exact YF hF _
 ·rw[Bh hF];show(((1:Int)==1||(1:Int)==3)&&(k==kw))=false;have:(k==kw)=false:=beq_eq_false_iff_ne.2 (fun e=>hk (e▸hks));rw[this];rfl
theorem YW {L:List Tok} {i:Nat} {k:List UInt8} {R:List Tok} (hF:Ad L i (wd k::R)):isB L i k=true:=by
 rw[Bh hF];show(((1:Int)==1||(1:Int)==3)&&(k==k))=true;simp
theorem Ei {ks:List (List UInt8)} {S R:List Tok} (h1:Bi ks S) (h2:Bi ks R):Bi ks (S++R):=by
 rcases h1 with rfl|⟨k,hk,T,rfl⟩
 ·exact h2
 ·exact .inr ⟨k,hk,T++R,rfl⟩
theorem DV {α:Type} {ks:List (List UInt8)} {g:α->List Tok} {k:List UInt8} (hk:k∈ks) (hg:∀a,∃T,g a=wd k::T) (l:List α):Bi ks (l.flatMap g):=by
 cases l with
 |nil=>exact .inl rfl
 |cons a l=>
  obtain⟨T,h⟩:=hg a;exact .inr ⟨k,hk,T++l.flatMap g,by rw[List.flatMap_cons,h];rfl⟩
theorem Vk {num:Bool} {c:Cel} (hc:A9 BW c=true) (hn:num=true\/c.n=0) {L:List Tok} {i:Nat} {x:UInt8} {R:List Tok} (hx:x=44\/x=59) (hF:Ad L i (DJ c++sg x::R)):
  ∃c',GW num L i=.ok c' (i+(DJ c).length)/\bareCel c'=bareCel c/\Ad L (i+(DJ c).length) (sg x::R):=by
 obtain⟨h1,_⟩:=Ln hc;have hend:=hF.app;by_cases h0:c.n=0
 ·have ht:DJ c=[wd c.name]:=by unfold DJ;rw[if_pos h0]
  rw[ht]at hF hend⊢;obtain⟨e1,hF1⟩:=G0 h1 hF;refine⟨⟨c.name,0,AN L i⟩,?_,by unfold bareCel;simp[h0],hend⟩;unfold GW;rw[e1,RS.bind_ok];have hq:isB L ((i+1:Nat):Int) [61]=false:=by
   rw[Bh hF1];rcases hx with rfl|rfl<;>rfl
  rw[if_neg (by rw[hq];simp)];rfl
 ·have ht:DJ c=[wd c.name,sg 61,⟨2,Lib.itoa c.n,c.n,0⟩]:=by unfold DJ;rw[if_neg h0]
  have hnum:num=true:=by rcases hn with h|h;exact h;exact absurd h h0
  rw[ht]at hF hend⊢;obtain⟨e1,hF1⟩:=G0 h1 hF;have hq:isB L ((i+1:Nat):Int) [61]=true:=by rw[Bh hF1];rfl
  obtain⟨_,_,_,hF2⟩:=Ad.head hF1;obtain⟨t',g1,g2,_⟩:=Ad.head hF2;have hna:numAt L (i+1+1)=some c.n:=by
   unfold numAt;rw[g1];have hk:t'.kind=2:=congrArg Tok.kind g2;have hv:t'.n=c.n:=congrArg Tok.n g2;simp[hk,hv]
  refine⟨⟨c.name,c.n,AN L i⟩,?_,by unfold bareCel;rfl,hend⟩;unfold GW;rw[e1,RS.bind_ok,if_pos ⟨hnum,hq⟩,hna];rfl
theorem SS {num:Bool}:∀(l:List Cel),l≠[]->l.all (A9 BW)=true->(num=true\/∀c∈l,c.n=0)->∀(L:List Tok) (i f:Nat) (R:List Tok),Ad L i (Ee l++sg 59::R)->L.length+1<=f+i->
  ∃l',Be num L f i=some (.ok l' (i+(Ee l).length+1))/\l'.map bareCel=l.map bareCel/\Ad L (i+(Ee l).length+1) R
 |[],h,_,_,_,_,_,_,_,_=>absurd rfl h
 |[c],_,hc,hn,L,i,f,R,hF,hf=>by
  simp only[List.all_cons,List.all_nil,Bool.and_true]at hc;unfold Ee at hF⊢;obtain⟨c',e1,e2,hF1⟩:=Vk (num:=num) hc (hn.imp id fun h=>h c (by simp)) (.inr rfl) hF;obtain⟨e3,hF2⟩:=FV hF1;have hlt:=hF1.le;cases f with
  |zero=>omega
  |succ f=>
   refine⟨[c'],?_,by simp[e2],hF2⟩;unfold Be;rw[e1,RS.obind_ok];have hq:isB L ((i+(DJ c).length:Nat):Int) [44]=false:=by rw[Bh hF1];rfl
   rw[if_neg (by rw[hq];simp),e3,RS.obind_ok]
 |c::d::l,_,hc,hn,L,i,f,R,hF,hf=>by
  rw[List.all_cons,Bool.and_eq_true]at hc;have ht:Ee (c::d::l)=DJ c++(sg 44::Ee (d::l)):=rfl;rw[ht]at hF⊢;rw[List.append_assoc,List.cons_append]at hF;obtain⟨c',e1,e2,hF1⟩:=Vk (num:=num) hc.1 (hn.imp id fun h=>h c (by simp)) (.inl rfl) hF;have hlt:=hF1.le;obtain⟨_,_,_,hF2⟩:=Ad.head hF1;cases f with
  |zero=>omega
  |succ f=>
   have hcl:0<(DJ c).length:=by unfold DJ;simp
   obtain⟨l',r1,r2,r3⟩:=SS (d::l) (by simp) hc.2 (hn.imp id fun h=>fun x hx=>h x (by simp[hx])) L (i+(DJ c).length+1) f R hF2 (by omega);have hj:i+(DJ c).length+1+(Ee (d::l)).length+1=i+(DJ c++(sg 44::Ee (d::l))).length+1:=by simp only[List.length_append,List.length_cons];omega
   rw[hj]at r1 r3;refine⟨c'::l',?_,by rw[List.map_cons,List.map_cons,e2,r2],r3⟩;unfold Be;rw[e1,RS.obind_ok];have hq:isB L ((i+(DJ c).length:Nat):Int) [44]=true:=by rw[Bh hF1];rfl
   rw[if_pos hq,r1,RS.obind_ok]
theorem Gs {num:Bool} {w:List UInt8} {l:List Cel} (hl:l≠[]) (hc:l.all (A9 BW)=true) (hn:num=true\/∀c∈l,c.n=0) {L:List Tok} {i f:Nat} {R:List Tok} (hF:Ad L i (Da w l++R)) (hf:L.length+1<=f+i):
  isB L i w=true/\∃l' j,Be num L f (i+1)=some (.ok l' j)/\l'.map bareCel=l.map bareCel/\Ad L j R/\i<j/\j<=L.length:=by
 unfold Da at hF;rw[List.cons_append,List.append_assoc]at hF;have hk:=YW hF;obtain⟨_,_,_,hF1⟩:=Ad.head hF;obtain⟨l',r1,r2,r3⟩:=SS (num:=num) l hl hc hn L (i+1) f R hF1 (by omega);have hlt:=(Ad.app hF1).le;exact⟨hk,l',_,r1,r2,r3,by omega,by omega⟩
theorem DW {α β:Type} {kw:List UInt8} {p:Nat->Option (RS α)} {g:α->β} {toks:α->List Tok} {L:List Tok}:∀(l:List α),(∀a∈l,∀i R,Ad L i (toks a++R)->i<=L.length->isB L i kw=true/\∃a' j,p i=some (.ok a' j)/\g a'=g a/\Ad L j R/\i<j/\j<=L.length)->
  ∀(i f:Nat) (R:List Tok),Ad L i (l.flatMap toks++R)->(∀j,Ad L j R->isB L j kw=false)->L.length+1<=f+i->i<=L.length->∃l' j,CC L kw p f i=some (.ok l' j)/\l'.map g=l.map g/\Ad L j R/\i<=j/\j<=L.length
 |[],_,i,f,R,hF,hR,hf,hi=>by
  cases f with
  |zero=>omega
  |succ f=>
   refine⟨[],i,?_,rfl,hF,Nat.le_refl _,hi⟩;unfold CC;rw[if_neg (by rw[hR i hF];simp)]
 |a::l,h,i,f,R,hF,hR,hf,hi=>by
  rw[List.flatMap_cons,List.append_assoc]at hF;obtain⟨hk,a',j,h1,h2,h3,h4,h5⟩:=h a (by simp) i _ hF hi;cases f with
  |zero=>omega
  |succ f=>
   obtain⟨l',k,r1,r2,r3,r4,r5⟩:=DW l (fun b hb=>h b (by simp[hb])) j f R h3 hR (by omega) h5;refine⟨a'::l',k,?_,by rw[List.map_cons,List.map_cons,h2,r2],r3,by omega,r5⟩;unfold CC;rw[if_pos hk,h1,RS.obind_ok,r1,RS.obind_ok]
theorem QF8:∀k:Fin 15,2<=k.1->(CM.getD k.1 []==Ip)=false:=by decide
theorem QCP {s:List UInt8} (h:nameB s=true):(s==Ip)=false:=by
 cases hq:s==Ip with
 |false=>rfl
 |true=>rw[eq_of_beq hq]at h;revert h;decide
theorem Vl {x:Stm} (h:EY x=true):∃u T,Hg x=wd u::T/\(u==Ip)=false:=by
 obtain⟨k,hk,h1,h2⟩:=Ij h;obtain⟨_,_,_,hr,_⟩:=La hk h;have kwr:∀k:Nat,2<=k->k<=14->(Jv (k:Nat)==Ip)=false:=fun k h1 h2=>by
  have:=QF8 ⟨k,by omega⟩ h1;simpa[Jv]using this
 unfold Hg;rw[hk];have hkk:k=1\/k=2\/k=3\/k=4\/(k=11\/k=14)\/k=12\/(k=7\/k=8\/k=13)\/(k=5\/k=6\/k=9\/k=10):=by omega
 rcases hkk with rfl|rfl|rfl|rfl|h|rfl|h|h
 ·exact⟨_,_,rfl,QCP hr⟩
 ·exact⟨_,_,rfl,kwr 2 (by omega) (by omega)⟩
 ·exact⟨_,_,rfl,kwr 3 (by omega) (by omega)⟩
 ·exact⟨_,_,rfl,kwr 4 (by omega) (by omega)⟩
 ·rw[if_neg (by omega),if_neg (by omega),if_neg (by omega),if_neg (by omega),if_pos (by omega)];exact⟨_,_,rfl,kwr k (by omega) h2⟩
 ·exact⟨_,_,rfl,kwr 12 (by omega) (by omega)⟩
 ·rw[if_neg (by omega),if_neg (by omega),if_neg (by omega),if_neg (by omega),if_neg (by omega),if_neg (by omega),if_pos (by omega)];exact⟨_,_,rfl,kwr k (by omega) h2⟩
 ·rw[if_neg (by omega),if_neg (by omega),if_neg (by omega),if_neg (by omega),if_neg (by omega),if_neg (by omega),if_neg (by omega)];exact⟨_,_,rfl,kwr k (by omega) h2⟩
theorem QAL {l:List Stm} (h:CP l=true) {L:List Tok} {i f opn:Nat} {R:List Tok} (hF:Ad L i (FK l++sg 125::R)) (hi:i<=L.length) (hf:L.length+1<=f+i):
  ∃l',Hi L f i opn=some (.ok l' (i+(FK l).length+1))/\l'.map bareS=l.map bareS/\Ad L (i+(FK l).length+1) R/\i+(FK l).length+1<=L.length:=by
 obtain⟨b,rfl,g1,g2,g3,g4,g5⟩:=Dq h;unfold FK at hF⊢;rw[g5]at hF⊢;simp only at hF⊢;obtain⟨b',f',q,r⟩:=QCL b L i 0 0 R g1 g3 (by omega) hF;obtain⟨rt,ht⟩:=OM L f i 0 0 hi (by omega);have e:rt=.ok b' (i+(Df b).length):=by
  have h1:=Ii L (Nat.le_max_left f f') _ _ _ _ ht;have h2:=Ii L (Nat.le_max_right f f') _ _ _ _ r;rw[h1]at h2;exact Option.some.inj h2
 subst e;have hend:=Ad.app hF;obtain⟨e3,hF3⟩:=FV hend;have hlt:=hend.le;refine⟨b'.flat,?_,by rw[<-KI,<-KI,q],hF3,by omega⟩;unfold Hi;rw[ht,RS.obind_ok,e3,RS.obind_ok,if_neg (by rw[MQ q];omega)]
theorem QAM (l:List (List UInt8)) (m:List Cel) (h:m.map bareCel=(l.map fun s=>(⟨s,0,0⟩:Cel)).map bareCel):m.map (·.name)=l:=by
 have h1:=congrArg (List.map Cel.name) h;simpa[List.map_map,Function.comp_def,bareCel]using h1
theorem Vm {named:Bool} {t:Thr} (h:Bv named t=true) {L:List Tok} {i f:Nat} {R:List Tok} (hF:Ad L i (Jm t++R)) (hf:L.length+1<=f+i) (name:List UInt8) (pl:Int) (hn:name=t.name):
  ∃t' j,Kp L f i name pl=some (.ok t' j)/\CJ t'=CJ t/\Ad L j R/\i<j/\j<=L.length:=by
 obtain⟨_,_,_,h4,h5⟩:=Jn h;unfold Jm at hF;rw[List.cons_append,List.append_assoc,List.append_assoc]at hF;obtain⟨e1,hF1⟩:=FV hF;have hlt:=hF.le;have hregs:∃k,IC L f (i+1)=some (.ok t.regs k)/\Ad L k (FK t.body++([sg 125]++R))/\i+1<=k/\k<=L.length:=by
  unfold Nk at hF1;by_cases he:t.regs.isEmpty=true
  ·rw[if_pos he,List.nil_append]at hF1;have hq:isB L ((i+1:Nat):Int) Ip=false:=by
    obtain⟨b,hb,g1,g2,g3,g4,g5⟩:=Dq h4;unfold FK at hF1;rw[g5]at hF1;simp only at hF1;cases b with
    |nil=>rw[Bh (t:=sg 125) hF1];rfl
    |cons s b1 e1 r1=>
     obtain⟨_,_,_,_,g6,_⟩:=IT.1 g1;obtain⟨u,T,w1,w2⟩:=Vl g6;unfold Df at hF1;rw[w1]at hF1;simp only[List.cons_append]at hF1;rw[Bh hF1];show(((1:Int)==1||(1:Int)==3)&&(u==Ip))=false;rw[w2];rfl
   refine⟨i+1,?_,hF1,Nat.le_refl _,by omega⟩;unfold IC;rw[if_neg (by rw[hq];simp),List.isEmpty_iff.1 he]
  ·rw[if_neg he]at hF1;have hne:(t.regs.map fun s=>(⟨s,0,0⟩:Cel))≠[]:=by
    intro e;apply he;rw[List.isEmpty_iff];simpa using e
   have h0:(t.regs.map fun s=>(⟨s,0,0⟩:Cel)).all (A9 BW)=true:=by
    have:=Vj h5;rw[List.all_eq_true]at *;exact fun c hc=>Is (this c hc)
   obtain⟨hk,l',j,r1,r2,r3,r4,r5⟩:=Gs (num:=false) (w:=Ip) hne h0 (.inr (by simp)) (i:=i+1) (f:=f) (R:=FK t.body++([sg 125]++R)) hF1 (by omega);refine⟨j,?_,r3,by omega,r5⟩;unfold IC;rw[if_pos hk,r1,RS.obind_ok,QAM _ _ r2]
 obtain⟨k,r1,r2,r3,r4⟩:=hregs;obtain⟨l',s1,s2,s3,s4⟩:=QAL h4 (opn:=i) (f:=f) r2 r4 (by omega);refine⟨⟨name,t.regs,l',pl⟩,_,?_,?_,s3,by omega,s4⟩
 ·unfold Kp;rw[e1,RS.obind_ok,r1,RS.obind_ok,s1,RS.obind_ok]
 ·unfold CJ;rw[hn];simp[s2]
theorem O9 {t:Thr} (h:Bv true t=true) {L:List Tok} {i f:Nat} {R:List Tok} (hF:Ad L i (CU t++R)) (hf:L.length+1<=f+i):
  isB L i BX=true/\∃t' j,Dz L f i=some (.ok t' j)/\CJ t'=CJ t/\Ad L j R/\i<j/\j<=L.length:=by
 unfold CU at hF;rw[List.cons_append,List.cons_append]at hF;have hk:=YW hF;obtain⟨_,_,_,hF1⟩:=Ad.head hF;obtain⟨e1,hF2⟩:=G0 (Jn h).1 hF1;obtain⟨t',j,r1,r2,r3,r4,r5⟩:=Vm h hF2 (f:=f) (by omega) t.name (AN L ((i+1:Nat):Int)) rfl;refine⟨hk,t',j,?_,r2,r3,by omega,r5⟩;unfold Dz;rw[e1,RS.obind_ok];exact r1
theorem Vo {t:Thr} (h:Bv false t=true) {L:List Tok} {i f:Nat} {R:List Tok} (hF:Ad L i (D7 t++R)) (hf:L.length+1<=f+i):
  ∃t' j,LH L f i=some (.ok [t'] j)/\CJ t'=CJ t/\Ad L j R/\i<j/\j<=L.length:=by
 unfold D7 at hF;rw[List.cons_append]at hF;have hk:=YW hF;obtain⟨_,_,_,hF1⟩:=Ad.head hF;have hn:t.name=[]:=List.isEmpty_iff.1 (Jn h).1;obtain⟨t',j,r1,r2,r3,r4,r5⟩:=Vm h hF1 (f:=f) (by omega) [] (AN L i) hn.symm;refine⟨t',j,?_,r2,r3,by omega,r5⟩;unfold LH;rw[if_pos hk,r1,RS.obind_ok]
theorem Qp {c:Clm} (h:Eo c=true) {L:List Tok} {i:Nat} {R:List Tok} (hF:Ad L i (BC c++R)):
  isB L i Ak=true/\∃c' j,some (FH L (i+1) (AN L i))=some (.ok c' j)/\EU c'=EU c/\Ad L j R/\i<j/\j<=L.length:=by
 unfold Eo at h;rw[Bool.and_eq_true]at h;unfold BC at hF;rw[List.cons_append,List.append_assoc]at hF;have hk:=YW hF;obtain⟨_,_,_,hF1⟩:=Ad.head hF;obtain⟨l',e2,e1⟩:=Ll h.2 (.inl rfl) hF1;have e3:=Ad.app hF1;obtain⟨e4,hF3⟩:=FV e3;have hlt:=e3.le;refine⟨hk,⟨l',AN L i⟩,_,?_,by unfold EU;rw[e2],hF3,by omega,by omega⟩;unfold FH;rw[e1,RS.bind_ok,e4,RS.bind_ok]
theorem Lo (w:List UInt8) (l:List Cel):Jl w l=(if l.isEmpty then[]else[l]).flatMap (Da w):=by
 unfold Jl;split
 ·rfl
 ·simp
theorem II {l:List Cel} {ls:List (List Cel)} (h:ls.map (·.map bareCel)=(if l.isEmpty then[]else[l]).map (·.map bareCel)):ls.flatten.map bareCel=l.map bareCel:=by
 have h1:=congrArg List.flatten h;rw[<-List.map_flatten,<-List.map_flatten]at h1;rw[h1];split
 ·rename_i he;rw[List.isEmpty_iff.1 he];rfl
 ·simp
theorem QAN {p:Prg} (h:BH p=true) {T:List Tok} (hT:T.map Tok.bare=Hy p):∃p' j,I8 T (T.length+1)=some (.ok p' j)/\Dv p'=Dv p:=by
 obtain⟨h1,h2,h3,h4,h5,h6,h7⟩:=LK h;have hF:Ad T 0 (Hy p):=by unfold Ad;rw[List.drop_zero,hT]
 unfold Hy at hF;rw[Lo,Lo]at hF;rw[List.all_eq_true]at h1 h2 h5 h6;have f6:Bi [Ak] (p.claims.flatMap BC):=DV (by simp) (fun _=>⟨_,rfl⟩) _;have up:∀{ks ks':List (List UInt8)} {R:List Tok},(∀k∈ks,k∈ks')->Bi ks R->Bi ks' R:=fun hs hR=>hR.imp id (fun⟨k,hk,T,e⟩=>⟨k,hs k hk,T,e⟩)
 have f5:Bi [Az,Ak] (p.recs.flatMap D7++p.claims.flatMap BC):=Ei (DV (k:=Az) (by simp) (fun _=>⟨_,rfl⟩) _) (up (by simp) f6);have f4:Bi [BX,Az,Ak] (p.threads.flatMap CU++(p.recs.flatMap D7++p.claims.flatMap BC)):=Ei (DV (k:=BX) (by simp) (fun _=>⟨_,rfl⟩) _) (up (by simp) f5)
 have f3:Bi [Cf,BX,Az,Ak] ((if p.locks.isEmpty then[]else[p.locks]).flatMap (Da Cf)++(p.threads.flatMap CU++(p.recs.flatMap D7++p.claims.flatMap BC))):=Ei (DV (k:=Cf) (by simp) (fun _=>⟨_,rfl⟩) _) (up (by simp) f4);have f2:Bi [F7,Cf,BX,Az,Ak] ((if p.vols.isEmpty then[]else[p.vols]).flatMap (Da F7)++((if p.locks.isEmpty then[]else[p.locks]).flatMap (Da Cf)++(p.threads.flatMap CU++(p.recs.flatMap D7++p.claims.flatMap BC)))):=Ei (DV (k:=F7) (by simp) (fun _=>⟨_,rfl⟩) _) (up (by simp) f3)
 obtain⟨ls,i1,a1,a2,a3,a4,a5⟩:=DW (kw:=DG) (p:=fun i=>Be true T (T.length+1) (i+1)) (g:=fun l:List Cel=>l.map bareCel) (toks:=Da DG) p.lines (fun l hl i R hF hi=>by
  have hh:=h1 l hl;unfold EJ at hh;rw[Bool.and_eq_true]at hh;have hne:l≠[]:=by intro e;rw[e]at hh;simp at hh
  exact Gs hne hh.2 (.inl rfl) hF (by omega)) 0 (T.length+1) _ hF (fun j hj=>EL f2 (by decide) hj) (by omega) (by omega)
 obtain⟨vs,i2,b1,b2,b3,b4,b5⟩:=DW (kw:=F7) (p:=fun i=>Be true T (T.length+1) (i+1)) (g:=fun l:List Cel=>l.map bareCel) (toks:=Da F7) (if p.vols.isEmpty then[]else[p.vols]) (fun l hl i R hF hi=>by
  split at hl
  ·cases hl
  ·rename_i he
   simp at hl;subst hl;exact Gs (fun e=>he (by rw[e];rfl)) h3 (.inl rfl) hF (by omega)) i1 (T.length+1) _ a3 (fun j hj=>EL f3 (by decide) hj) (by omega) a5
 obtain⟨ks,i3,c1,c2,c3,c4,c5⟩:=DW (kw:=Cf) (p:=fun i=>Be false T (T.length+1) (i+1)) (g:=fun l:List Cel=>l.map bareCel) (toks:=Da Cf) (if p.locks.isEmpty then[]else[p.locks]) (fun l hl i R hF hi=>by
  split at hl
  ·cases hl
  ·rename_i he
   simp at hl;subst hl;rw[List.all_eq_true]at h4;exact Gs (fun e=>he (by rw[e];rfl)) (by rw[List.all_eq_true];exact fun c hc=>Is (h4 c hc)) (.inr fun c hc=>by have:=Ln (h4 c hc);omega) hF (by omega)) i2 (T.length+1) _ b3 (fun j hj=>EL f4 (by decide) hj) (by omega) b5
 obtain⟨ts,i4,d1,d2,d3,d4,d5⟩:=DW (kw:=BX) (p:=Dz T (T.length+1)) (g:=CJ) (toks:=CU) p.threads (fun t ht i R hF hi=>O9 (h5 t ht) hF (by omega)) i3 (T.length+1) _ c3 (fun j hj=>EL f5 (by decide) hj) (by omega) c5;have hrec:∃rs i5,LH T (T.length+1) i4=some (.ok rs i5)/\rs.map CJ=p.recs.map CJ/\Ad T i5 (p.claims.flatMap BC)/\i4<=i5/\i5<=T.length:=by
  match hp:p.recs,h7 with
  |[],_=>
   rw[hp]at d3;rw[List.flatMap_nil,List.nil_append]at d3;refine⟨[],i4,?_,rfl,d3,Nat.le_refl _,d5⟩;unfold LH;rw[if_neg (by rw[EL f6 (by decide) d3];simp)]
  |[t],_=>
   rw[hp]at d3;rw[List.flatMap_cons,List.flatMap_nil,List.append_nil]at d3;obtain⟨t',j,r1,r2,r3,r4,r5⟩:=Vo (h6 t (by rw[hp];simp)) d3 (f:=T.length+1) (by omega);exact⟨[t'],j,r1,by simp[r2],r3,by omega,r5⟩
  |a::b::l,h7=>simp at h7
 obtain⟨rs,i5,e1,e2,e3,e4,e5⟩:=hrec;have e3':Ad T i5 (p.claims.flatMap BC++[]):=by rw[List.append_nil];exact e3
 obtain⟨cs,i6,g1,g2,g3,g4,g5⟩:=DW (kw:=Ak) (p:=fun i=>some (FH T (i+1) (AN T i))) (g:=EU) (toks:=BC) p.claims (fun c hc i R hF hi=>Qp (h2 c hc) hF) i5 (T.length+1) [] e3' (fun j hj=>YF hj _) (by omega) e5;refine⟨⟨ls,vs.flatten,ks.flatten,ts,rs,cs⟩,i6,?_,?_⟩
 ·unfold I8 UC YR UD Nh PQ;rw[a1,RS.obind_ok,b1,RS.obind_ok,c1,RS.obind_ok,d1,RS.obind_ok,e1,RS.obind_ok,g1,RS.obind_ok];unfold OY;have:=Ad.none g3;rw[if_neg (by omega)]
 ·unfold Dv;simp only[Prg.mk.injEq];exact⟨a2,II b2,II c2,d2,e2,g2⟩
def Qq {α:Type} (n:Nat) (r:RS α):Prop:=∀e p,r=.bad e p->0<=p/\p<=n
theorem Qq.bind {α β:Type} {n:Nat} {r:RS α} {k:α->Nat->RS β} (h:Qq n r) (hk:∀a j,Qq n (k a j)):Qq n (r.bind k):=by
 cases r with
 |ok a j=>exact hk a j
 |bad e p=>intro e' p' hp;simp only[RS.bind_bad,RS.bad.injEq]at hp;rw[<-hp.2];exact h e p rfl
def PS {α:Type} (n:Nat) (o:Option (RS α)):Prop:=∀r,o=some r->Qq n r
theorem PS.obind {α β:Type} {n:Nat} {o:Option (RS α)} {k:α->Nat->Option (RS β)} (h:PS n o) (hk:∀a j,PS n (k a j)):PS n (RS.obind o k):=by
 intro r hr;rcases RS.obind_some hr with⟨a,j,h1,h2⟩|⟨e,p,h1,rfl⟩
 ·exact hk a j r h2
 ·intro e' p' hp;simp only[RS.bad.injEq]at hp;rw[<-hp.2];exact h _ h1 e p rfl
end Go.Proofs.YthfkpalfopdmhaaGreatDoor
