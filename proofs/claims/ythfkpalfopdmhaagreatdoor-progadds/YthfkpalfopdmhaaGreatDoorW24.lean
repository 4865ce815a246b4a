/- Texts of the walk, packed. -/
import Derived.Test.YthfkpalfopdmhaaGreatDoorW23
import Derived.Test.YthfkpalfopdmhaaGreatDoorW21
import Derived.Deep.AppendLies
import Derived.Deep.RegionLaw
import Derived.Deep.Cut
import Derived.Test.YthfkpalfopdmhaaGreatDoorW00
namespace Go.Proofs.YthfkpalfopdmhaaGreatDoor
open Go.RowKit
def Dj (kv kv':Value) (w:World):Prop:=∀q,kv'.ownBlock=some q->kv.ownBlock=some q\/w.heap.size<=q
theorem Dj.refl (kv:Value) (w:World):Dj kv kv w:=fun _ h=>.inl h
theorem Dj.trans {k1 k2 k3:Value} {w1 w2:World} (h:Dj k1 k2 w1) (h2:Dj k2 k3 w2) (hs:w1.heap.size<=w2.heap.size):Dj k1 k3 w1:=by
 intro q hq;rcases h2 q hq with h3|h3
 ·exact h q h3
 ·exact .inr (by omega)
section
variable {L:List Tok} {W0:World} {g:Nat} {lv:Value} {i d l m:Nat} {pl:Int} {K:List Sv} {kv:Value} {w:World} {b:Nat} {x:Sv}
theorem Mine.onward {kv':Value} (h:Dj kv kv' w):∀k,k<w.heap.size->Mine g kv' k->Mine g kv k:=by
 rintro k hk (rfl|h1)
 ·exact .inl rfl
 ·rcases h k h1 with h2|h2
  ·exact .inr h2
  ·omega
theorem Hu.onward {kv':Value} (h:Hu W0 g kv b) (ho:Dj kv kv' w) (hb:b<w.heap.size):Hu W0 g kv' b:=
 ⟨h.ne,fun e=>by rcases ho b e with h1|h1;exact h.own h1;omega,h.low⟩
theorem Hu.not_mine (h:Hu W0 g kv b):¬Mine g kv b:=by
 rintro(h1|h1)
 ·exact h.ne h1
 ·exact h.own h1
def SK (L:List Tok) (W0:World) (g:Nat) (lv:Value) (d l m:Nat) (K:List Sv) (kv:Value) (w:World) (r:RS Bk) (e:Ending) (w':World):Prop:=match r with
 |.ok t j=>e=.returned (.tuple #[.int .i64 (t.count:Nat),.int .i64 0])/\(∃pl' K' kv',Dc L W0 g lv j d l (m+t.count) pl' (K++K') kv' w'/\K'.map (·.s)=t.flat.take (40-K.length)/\Dj kv kv' w)/\AG (Mine g kv) w w'
 |.bad er p=>e=.returned (.tuple #[.int .i64 0,.int .i64 er])/\er≠0/\Ha g lv p w'/\AG (Mine g kv) w w'
def Gm (L:List Tok) (W0:World) (g:Nat) (lv:Value) (row:DF):Prop:=∀(i d l m:Nat) (pl:Int) (K:List Sv) (kv:Value) (w:World) (r:RS Bk),Dc L W0 g lv i d l m pl K kv w->CB row L i d l=some r->Calls Tryz.prog 235 #[.pointer (some ⟨g,0,none⟩)] w (SK L W0 g lv d l m K kv w r)
def PO (L:List Tok) (W0:World) (g:Nat) (lv:Value) (d l m:Nat) (K:List Sv) (kv:Value) (w:World) (r:RS YG) (e:Ending) (w':World):Prop:=match r with
 |.ok o j=>e=.returned (.int .i64 0)/\(∃pl' K' kv',Dc L W0 g lv j (d+1) l (m+1+o.b.count+o.e.count) pl' (K++K') kv' w'/\K'.map (·.s)=(o.s::(o.b.flat++o.e.flat)).take (40-K.length)/\Dj kv kv' w)/\AG (Mine g kv) w w'
 |.bad er p=>e=.returned (.int .i64 er)/\er≠0/\Ha g lv p w'/\AG (Mine g kv) w w'
def YM (L:List Tok) (W0:World) (g:Nat) (lv:Value) (row:DF):Prop:=∀(i d l m:Nat) (pl:Int) (K:List Sv) (kv:Value) (w:World) (r:RS YG),Dc L W0 g lv i (d+1) l m pl K kv w->m+1<=i->i<=L.length->l<=d->G8 row L i d l=some r->Calls Tryz.prog 262 #[.pointer (some ⟨g,0,none⟩)] w (PO L W0 g lv d l m K kv w r)
def Qg (row:DF) (L:List Tok) (d l k i:Nat):Option (RS (Bk×Bk)):=RS.obind (CB row L i (d+1) (inL k l)) fun t j=>RS.obind (EF row L k j (d+1) (inL k l)) fun u j=>some (.ok (t,u) j)
def Jb (L:List Tok) (W0:World) (g:Nat) (lv:Value) (d l m:Nat) (K:List Sv) (kv:Value) (b:Nat) (x:Sv) (w:World) (r:RS (Bk×Bk)) (e:Ending) (w':World):Prop:=match r with
 |.ok t j=>e=.returned (.int .i64 0)/\(∃pl' K' kv',IA L W0 g lv j (d+1) l (m+t.1.count+t.2.count) pl' (K++K') kv' b ⟨{x.s with body:=t.1.count,els:=t.2.count},x.vE,x.vF⟩ w'/\K'.map (·.s)=(t.1.flat++t.2.flat).take (40-K.length)/\Dj kv kv' w)/\AG (fun k=>Mine g kv k\/k=b) w w'
 |.bad er p=>e=.returned (.int .i64 er)/\er≠0/\Ha g lv p w'/\AG (fun k=>Mine g kv k\/k=b) w w'
theorem Ha.cell3 {p:Int} (h:Ha g lv p w):∃z:Int,w.cell? ⟨g,3,none⟩=some (.int .i64 z)/\w.frozen? ⟨g,3,none⟩=false/\g<w.heap.size:=by
 obtain⟨a,b,c,d,e,h⟩:=h;exact⟨c,by rw[Lib.cell_of_heap h];rfl,Lib.frozen_of_heap h 3,(Array.getElem?_eq_some_iff.1 h).1⟩
theorem Ha.set3 {p z:Int} (h:Ha g lv p w):Ha g lv p (w.setCell ⟨g,3,none⟩ (.int .i64 z)):=by
 obtain⟨a,b,c,d,e,h⟩:=h;exact⟨a,b,z,d,e,Af h⟩
theorem Ha.other {p:Int} {q j:Nat} {v:Value} (h:Ha g lv p w) (hq:q≠g):Ha g lv p (w.setCell ⟨q,j,none⟩ v):=by
 obtain⟨a,b,c,d,e,h⟩:=h;exact⟨a,b,c,d,e,by rw[Below.heap_setCell _ _ _ _ (fun e=>hq e.symm)];exact h⟩
theorem QB4 {p:Int} {w':World} (h:Ha g lv p w) (hb:Below w.heap.size w w'):Ha g lv p w':=by
 obtain⟨a,b,c,d,e,h⟩:=h;exact⟨a,b,c,d,e,by rw[hb.block g (Array.getElem?_eq_some_iff.1 h).1];exact h⟩
theorem IA.go (h:IA L W0 g lv i d l m pl K kv b x w) {w':World} {i' d' l' m':Nat} {pl':Int} {K':List Sv} {kv':Value} (hs:Dc L W0 g lv i' d' l' m' pl' K' kv' w') (hk:AG (Mine g kv) w w') (ho:Dj kv kv' w):IA L W0 g lv i' d' l' m' pl' K' kv' b x w':=by
 have hlt:=(Array.getElem?_eq_some_iff.1 h.blk).1;exact⟨hs,by rw[hk.block b hlt h.sd.not_mine];exact h.blk,h.re.keep hk h.st.mine_nodes,h.rf.keep hk h.st.mine_nodes,h.sd.onward ho hlt⟩
theorem IA.put (h:IA L W0 g lv i d l m pl K kv b x w) {j:Nat} {v:Value} {y:Sv} (hy:(A8 x).toArray.setIfInBounds j v=(A8 y).toArray) (he:y.vE=x.vE) (hf:y.vF=x.vF) (he2:y.s.e=x.s.e) (hf2:y.s.f=x.s.f):IA L W0 g lv i d l m pl K kv b y (w.setCell ⟨b,j,none⟩ v):=by
 have hk:AG (fun k=>k=b) w (w.setCell ⟨b,j,none⟩ v):=AG.set;have hn:∀q cs fr,w.heap[q]?=some (.cells cs 46 fr)->¬(q=b):=fun q cs fr hh e=>h.nodes q cs fr hh (.inr e)
 exact⟨h.st.aside h.blk h.sd hk,by rw[Af h.blk,hy],by rw[he,he2];exact h.re.keep hk hn,by rw[hf,hf2];exact h.rf.keep hk hn,h.sd⟩
theorem IA.c6 (h:IA L W0 g lv i d l m pl K kv b x w):w.cell? ⟨b,6,none⟩=some (.int .i64 x.s.body):=by rw[Lib.cell_of_heap h.blk];rfl
theorem IA.c7 (h:IA L W0 g lv i d l m pl K kv b x w):w.cell? ⟨b,7,none⟩=some (.int .i64 x.s.els):=by rw[Lib.cell_of_heap h.blk];rfl
theorem IA.c0 (h:IA L W0 g lv i d l m pl K kv b x w):w.cell? ⟨b,0,none⟩=some (.int .i64 x.s.kind):=by rw[Lib.cell_of_heap h.blk];rfl
theorem IA.fz (h:IA L W0 g lv i d l m pl K kv b x w) (j:Nat):w.frozen? ⟨b,j,none⟩=false:=Lib.frozen_of_heap h.blk j
theorem IA.lt (h:IA L W0 g lv i d l m pl K kv b x w):b<w.heap.size:=(Array.getElem?_eq_some_iff.1 h.blk).1
theorem IA.keepg' (h:IA L W0 g lv i d l m pl K kv b x w) {w':World} {i' d' l' m':Nat} {pl':Int} (hs:Dc L W0 g lv i' d' l' m' pl' K kv w') (hk:AG (fun k=>k=g) w w'):IA L W0 g lv i' d' l' m' pl' K kv b x w':=
 h.go hs (hk.mono fun _ _ h=>.inl h) (Dj.refl _ _)
theorem IA.on (h:IA L W0 g lv i d l m pl K kv b x w) {w':World} (hb:Below w.heap.size w w'):IA L W0 g lv i d l m pl K kv b x w':=
 h.go (h.st.on hb) (AG.of hb) (Dj.refl _ _)
set_option maxRecDepth 100000 in
set_option maxHeartbeats 4000000 in
theorem VX {row:DF} (hB:Gm L W0 g lv row) (h:IA L W0 g lv i (d+1) l m pl K kv b x w) (hl:l<=d) (hk:x.s.kind=12) (he:x.s.els=0) {r:RS (Bk×Bk)} (hr:Qg row L d l 12 i=some r):
  Calls Tryz.prog 291 #[.pointer (some ⟨g,0,none⟩),.pointer (some ⟨b,0,none⟩)] w (Jb L W0 g lv d l m K kv b x w r):=by
 have HX:=AA h;have HBL:=AA hB;have hgl:=h.st.lt;have hbl:=h.lt;have c3:=h.st.c3;have f3:=h.st.fz 3;have k0:=h.c0;rw[hk]at k0;have hdd:=h.st.dd;have hne:¬b=g:=h.sd.ne;have hne2:¬g=b:=fun e=>hne e.symm
 have hw1:IntKind.i64.wrap ((l:Int)+1)=(l:Int)+1:=IntWalk.i64_in _ (by omega);have HS1:Hid (Dc L W0 g lv i (d+1) (l+1) m pl K kv (w.setCell ⟨g,3,none⟩ (.int .i64 ((l+1:Nat):Int)))):=AA (h.st.set3 (by omega));have HK1:Hid (AG (fun k=>k=g) w (w.setCell ⟨g,3,none⟩ (.int .i64 ((l+1:Nat):Int)))):=AA AG.set;have HHK:=AA hk;have HEL:=AA he;unfold Qg at hr;rw[show inL 12 l=l+1 from rfl]at hr;clear h hB hk he;rcases RS.obind_some hr with⟨t,j,h1,h2⟩|⟨er,p,h1,rfl⟩
 ·have h3:r=.ok (t,.nil) j:=by
   unfold EF at h2;rw[if_neg (by omega)]at h2;exact(Option.some.inj h2).symm
  subst h3;have HB1:=AA h1;clear hr h1 h2;go_enter Tryz.func291,Tryz.ntmps291;go_wp2_with fail
  rw[show((l:Int)+1)=((l+1:Nat):Int)from by omega];generalize hW1:w.setCell ⟨g,3,none⟩ (.int .i64 ((l+1:Nat):Int))=W1 at *;clear hW1 c3 f3 k0 hw1;refine(HBL.out i (d+1) (l+1) m pl K kv W1 _ HS1.out HB1.out).mono ?_;rintro e w2 ⟨rfl,⟨pl',K',kv',hs2,hm2,ho2⟩,hk2⟩;have HX2:Hid (IA L W0 g lv j (d+1) (l+1) (m+t.count) pl' (K++K') kv' b x w2):=AA ((HX.out.keepg' HS1.out HK1.out).go hs2 hk2 ho2);have HK2:=AA hk2;have HO2:=AA ho2;have HM2:=AA hm2;clear hs2 hk2 ho2 hm2;have hgl2:=HX2.out.st.lt;have hbl2:=HX2.out.lt;have d6:=HX2.out.c6;have e6:=HX2.out.fz 6;have d3:=HX2.out.st.c3;have g3:=HX2.out.st.fz 3
  have hw2:IntKind.i64.wrap (((l+1:Nat):Int)-1)=(l:Int):=by rw[IntWalk.i64_in _ (by omega)];omega
  go_wp2_with fail
  go_ret;have hX3:IA L W0 g lv j (d+1) (l+1) (m+t.count) pl' (K++K') kv' b ⟨{x.s with body:=t.count,els:=(Bk.nil.count:Nat)},x.vE,x.vF⟩ (w2.setCell ⟨b,6,none⟩ (.int .i64 (t.count:Nat))):=HX2.out.put (by simp[A8,Bk.count,HEL.out]) rfl rfl rfl rfl;have hX4:=hX3.keepg' (hX3.st.set3 (j:=l) (by omega)) AG.set;refine⟨rfl,⟨pl',K',kv',hX4,?_,(Dj.refl kv w).trans HO2.out HK1.out.size⟩,?_⟩
  ·rw[HM2.out];simp[Bk.flat]
  ·exact(HK1.out.trans HK2.out (R:=fun k=>Mine g kv k\/k=b) (fun _ _ h=>.inl (.inl h)) (fun _ _ h=>.inl h)).trans ((AG.set (g:=b) (j:=6)).trans (AG.set (g:=g) (j:=3)) (R:=fun k=>Mine g kv k\/k=b) (fun _ _ h=>.inr h) (fun _ _ h=>.inl (.inl h))) (fun _ _ h=>h) (fun _ _ h=>h)
 ·have HB1:=AA h1;clear hr h1;go_enter Tryz.func291,Tryz.ntmps291;go_wp2_with fail
  rw[show((l:Int)+1)=((l+1:Nat):Int)from by omega];generalize hW1:w.setCell ⟨g,3,none⟩ (.int .i64 ((l+1:Nat):Int))=W1 at *;clear hW1 c3 f3 k0 hw1;refine(HBL.out i (d+1) (l+1) m pl K kv W1 _ HS1.out HB1.out).mono ?_;rintro e w2 ⟨rfl,hne0,hba,hk2⟩;have HX1:Hid (IA L W0 g lv i (d+1) (l+1) m pl K kv b x W1):=AA (HX.out.keepg' HS1.out HK1.out);have hbk:w2.heap[b]?=some (.cells (A8 x).toArray 44 (0,0)):=by rw[hk2.block b HX1.out.lt HX1.out.sd.not_mine];exact HX1.out.blk
  have HBA:=AA hba;have HK2:=AA hk2;obtain⟨z,d3,g3,hgl2⟩:=hba.cell3;have hbl2:=(Array.getElem?_eq_some_iff.1 hbk).1;have d6:w2.cell? ⟨b,6,none⟩=some (.int .i64 x.s.body):=by rw[Lib.cell_of_heap hbk];rfl
  have e6:w2.frozen? ⟨b,6,none⟩=false:=Lib.frozen_of_heap hbk 6;have HNE:=AA hne0;clear hba hk2 hbk hne0;obtain⟨z',hz'⟩:∃z':Int,IntKind.i64.wrap (z-1)=z':=⟨_,rfl⟩
  go_wp2_with fail
  go_ret;refine⟨rfl,HNE.out,(HBA.out.other hne).set3,?_⟩;exact(HK1.out.trans HK2.out (R:=fun k=>Mine g kv k\/k=b) (fun _ _ h=>.inl (.inl h)) (fun _ _ h=>.inl h)).trans ((AG.set (g:=b) (j:=6)).trans (AG.set (g:=g) (j:=3)) (R:=fun k=>Mine g kv k\/k=b) (fun _ _ h=>.inr h) (fun _ _ h=>.inl (.inl h))) (fun _ _ h=>h) (fun _ _ h=>h)
theorem SL {K1 K2:List Sv} {l1 l2:List Stm} {n:Nat} (h1:K1.map (·.s)=l1.take n) (h2:K2.map (·.s)=l2.take (n-K1.length)):(K1++K2).map (·.s)=(l1++l2).take n:=by
 have hl:K1.length=min n l1.length:=by have:=congrArg List.length h1;simpa using this
 rw[List.map_append,h1,h2,List.take_append];congr 2;omega
set_option maxRecDepth 100000 in
set_option maxHeartbeats 4000000 in
theorem Zz {row:DF} (hs:Src L W0 lv) (hB:Gm L W0 g lv row) (h:IA L W0 g lv i (d+1) l m pl K kv b x w) (hk:x.s.kind=11) (he:x.s.els=0) {r:RS (Bk×Bk)} (hr:Qg row L d l 11 i=some r):
  Calls Tryz.prog 291 #[.pointer (some ⟨g,0,none⟩),.pointer (some ⟨b,0,none⟩)] w (Jb L W0 g lv d l m K kv b x w r):=by
 have HX:=AA h;have HC:=AA hs;have HBL:=AA hB;have hgl:=h.st.lt;have hbl:=h.lt;have k0:=h.c0;rw[hk]at k0;have hlen:=hs.len;have hne:¬b=g:=h.sd.ne;have hne2:¬g=b:=fun e=>hne e.symm
 have HEL:=AA he;unfold Qg at hr;rw[show inL 11 l=l from rfl]at hr;clear h hB hs hk he;rcases RS.obind_some hr with⟨t,j,h1,h2⟩|⟨er,p,h1,rfl⟩;case inr=>
  have HB1:=AA h1;clear hr h1;go_enter Tryz.func291,Tryz.ntmps291;go_wp2_with fail
  refine(HBL.out i (d+1) l m pl K kv w _ HX.out.st HB1.out).mono ?_;rintro e w2 ⟨rfl,hne0,hba,hk2⟩;have hbk:w2.heap[b]?=some (.cells (A8 x).toArray 44 (0,0)):=by rw[hk2.block b HX.out.lt HX.out.sd.not_mine];exact HX.out.blk
  have HBA:=AA hba;have HK2:=AA hk2;have hbl2:=(Array.getElem?_eq_some_iff.1 hbk).1;have d6:w2.cell? ⟨b,6,none⟩=some (.int .i64 x.s.body):=by rw[Lib.cell_of_heap hbk];rfl
  have e6:w2.frozen? ⟨b,6,none⟩=false:=Lib.frozen_of_heap hbk 6;have HNE:=AA hne0;have hz:(er==0)=false:=by simp[hne0]
  have hz2:(er != 0)=true:=by simp[hne0]
  clear hba hk2 hbk hne0;go_wp2_with fail
  go_quiet (fail)
  go_wp2_with fail
  go_ret;refine⟨rfl,HNE.out,QB4 (HBA.out.other hne) (AM _ _),?_⟩;exact(HK2.out.trans ((AG.set (g:=b) (j:=6))) (R:=fun k=>Mine g kv k\/k=b) (fun _ _ h=>.inl h) (fun _ _ h=>.inr h)).trans (AG.of (P:=fun _=>False) (AM _ _)) (fun _ _ h=>h) (fun _ _ h=>h.elim)
 case inl=>
 have HB1:=AA h1;clear hr h1;go_enter Tryz.func291,Tryz.ntmps291;go_wp2_with fail
 refine(HBL.out i (d+1) l m pl K kv w _ HX.out.st HB1.out).mono ?_;rintro e w2 ⟨rfl,⟨pl',K',kv',hs2,hm2,ho2⟩,hk2⟩;have HX2:Hid (IA L W0 g lv j (d+1) l (m+t.count) pl' (K++K') kv' b x w2):=AA (HX.out.go hs2 hk2 ho2);have HK2:=AA hk2;have HO2:=AA ho2;have HM2:=AA hm2;clear hs2 hk2 ho2 hm2;have HX3:Hid (IA L W0 g lv j (d+1) l (m+t.count) pl' (K++K') kv' b ⟨{x.s with body:=t.count},x.vE,x.vF⟩ (w2.setCell ⟨b,6,none⟩ (.int .i64 (t.count:Nat)))):=AA (HX2.out.put (by simp[A8]) rfl rfl rfl rfl)
 have HK3:Hid (AG (fun k=>Mine g kv k\/k=b) w (w2.setCell ⟨b,6,none⟩ (.int .i64 (t.count:Nat)))):=AA (HK2.out.trans (AG.set (g:=b) (j:=6)) (fun _ _ h=>.inl h) (fun _ _ h=>.inr h));have hbl2:=HX2.out.lt;have d6:=HX2.out.c6;have e6:=HX2.out.fz 6;clear hgl;have hgl2:=HX2.out.st.lt;go_upto_region 8 with(fail)
 generalize hW3:w2.setCell ⟨b,6,none⟩ (.int .i64 (t.count:Nat))=W3 at *;clear hW3 hbl2 d6 e6 hgl2 k0 hbl;have hgl:=HX3.out.st.lt;have c0:=HX3.out.st.c0;have c1:=HX3.out.st.c1;cases hq:isB L j FW with
 |false=>
  have h3:r=.ok (t,.nil) j:=by
   unfold EF at h2;rw[if_neg (by rw[hq];simp)]at h2;exact(Option.some.inj h2).symm
  subst h3;have HI:=AA hq;clear hq h2;go_region_held3 (fun w'=>w'.cell? ⟨g,0,none⟩=some lv/\w'.cell? ⟨g,1,none⟩=some (.int .i64 j)/\Below W3.heap.size W3 w')
   (first|exact⟨c0,c1,Below.refl _ _⟩|exact⟨c0,c1,AD _⟩|exact H6 (w1:=W3.drew) hgl ⟨c0,c1,AD _⟩ hb3)
   (first|(go_at_call 77;refine(GG (s:=FW) HI.out lv _ ((HX3.out.st.on (AD _)).toks HC.out)).mono ?_;rintro e w3 ⟨rfl,hb3⟩))
  have HB3:=AA (AC (AD W3) hb3);clear hb3 c0 c1;go_wp2_with fail
  go_ret;refine⟨rfl,⟨pl',K',kv',?_,?_,HO2.out⟩,HK3.out.trans (AG.of (P:=fun _=>False) HB3.out) (fun _ _ h=>h) (fun _ _ h=>h.elim)⟩
  ·have:=HX3.out.on HB3.out;have e2:(⟨{x.s with body:=t.count,els:=(Bk.nil.count:Nat)},x.vE,x.vF⟩:Sv)=⟨{x.s with body:=t.count},x.vE,x.vF⟩:=by simp[Bk.count,HEL.out.symm]
   show IA L W0 g lv j (d+1) l (m+t.count) pl' (K++K') kv' b ⟨{x.s with body:=t.count,els:=(Bk.nil.count:Nat)},x.vE,x.vF⟩ _;rw[e2];exact this
  ·rw[HM2.out];simp[Bk.flat]
 |true=>
  have h3:RS.obind (CB row L (j+1) (d+1) l) (fun u j=>some (.ok (t,u) j))=some r:=by
   unfold EF at h2;rw[if_pos ⟨rfl,hq⟩]at h2;exact h2
  have HI:=AA hq;have hjl:=Bl hq;clear hq h2;go_region_held3 (fun w'=>w'.cell? ⟨g,0,none⟩=some lv/\w'.cell? ⟨g,1,none⟩=some (.int .i64 j)/\Below W3.heap.size W3 w')
   (first|exact⟨c0,c1,Below.refl _ _⟩|exact⟨c0,c1,AD _⟩|exact H6 (w1:=W3.drew) hgl ⟨c0,c1,AD _⟩ hb3)
   (first|(go_at_call 77;refine(GG (s:=FW) HI.out lv _ ((HX3.out.st.on (AD _)).toks HC.out)).mono ?_;rintro e w3 ⟨rfl,hb3⟩))
  have HB3:=AA (AC (AD W3) hb3);have HX4:=AA (HX3.out.on HB3.out);have HK4:Hid (AG (fun k=>Mine g kv k\/k=b) w w3):=AA (HK3.out.trans (AG.of (P:=fun _=>False) HB3.out) (fun _ _ h=>h) (fun _ _ h=>h.elim));clear hb3 c0 c1 hgl;have hgl:=HX4.out.st.lt;have c1:=HX4.out.st.c1;have f1:=HX4.out.st.fz 1;have hw1:IntKind.i64.wrap ((j:Int)+1)=(j:Int)+1:=IntWalk.i64_in _ (by omega);have hmj:=HX4.out.st.mi;have HS5:Hid (Dc L W0 g lv (j+1) (d+1) l (m+t.count) pl' (K++K') kv' (w3.setCell ⟨g,1,none⟩ (.int .i64 ((j+1:Nat):Int)))):=AA (HX4.out.st.set1 (by omega) (by omega))
  have HK5:Hid (AG (fun k=>k=g) w3 (w3.setCell ⟨g,1,none⟩ (.int .i64 ((j+1:Nat):Int)))):=AA AG.set;have HK6:Hid (AG (fun k=>Mine g kv k\/k=b) w (w3.setCell ⟨g,1,none⟩ (.int .i64 ((j+1:Nat):Int)))):=AA (HK4.out.trans HK5.out (fun _ _ h=>h) (fun _ _ h=>.inl (.inl h)));have HX5:=AA (HX4.out.keepg' HS5.out HK5.out);go_wp2_with fail
  rw[show((j:Int)+1)=((j+1:Nat):Int)from by omega];generalize hW5:w3.setCell ⟨g,1,none⟩ (.int .i64 ((j+1:Nat):Int))=W5 at *;clear hW5 c1 f1 hw1 hgl;rcases RS.obind_some h3 with⟨u,j2,g1,g2⟩|⟨er,p,g1,rfl⟩
  ·obtain rfl:RS.ok (t,u) j2=r:=Option.some.inj g2;have HB6:=AA g1;clear g1 g2 h3;refine(HBL.out (j+1) (d+1) l (m+t.count) pl' (K++K') kv' W5 _ HS5.out HB6.out).mono ?_;rintro e w6 ⟨rfl,⟨pl6,K6,kv6,hs6,hm6,ho6⟩,hk6⟩;have HX6:=AA (HX5.out.go hs6 hk6 ho6);have HK7:=AA hk6;have HO6:=AA ho6;have HM6:=AA hm6;clear hs6 hk6 ho6 hm6;have hgl6:=HX6.out.st.lt;have hbl6:=HX6.out.lt;have d7:=HX6.out.c7;have e7:=HX6.out.fz 7;go_wp2_with fail
   go_ret;have hX7:IA L W0 g lv j2 (d+1) l (m+t.count+u.count) pl6 (K++K'++K6) kv6 b ⟨{x.s with body:=t.count,els:=u.count},x.vE,x.vF⟩ (w6.setCell ⟨b,7,none⟩ (.int .i64 (u.count:Nat))):=HX6.out.put (by simp[A8]) rfl rfl rfl rfl;refine⟨rfl,⟨pl6,K'++K6,kv6,?_,?_,HO2.out.trans HO6.out ?_⟩,?_⟩
   ·rw[<-List.append_assoc];exact hX7
   ·refine SL HM2.out ?_;rw[HM6.out,List.length_append];congr 1;omega
   ·exact HK6.out.size
   ·refine(HK6.out.trans HK7.out (R:=fun k=>Mine g kv k\/k=b) (fun _ _ h=>h) (fun k hk h=>?_)).trans (AG.set (g:=b) (j:=7)) (fun _ _ h=>h) (fun _ _ h=>.inr h);exact .inl (Mine.onward HO2.out k hk h)
  ·have HB6:=AA g1;clear g1 h3;refine(HBL.out (j+1) (d+1) l (m+t.count) pl' (K++K') kv' W5 _ HS5.out HB6.out).mono ?_;rintro e w6 ⟨rfl,hne0,hba,hk6⟩;have hbk:w6.heap[b]?=some (.cells (A8 ⟨{x.s with body:=t.count},x.vE,x.vF⟩).toArray 44 (0,0)):=by rw[hk6.block b HX5.out.lt HX5.out.sd.not_mine];exact HX5.out.blk
   have HBA:=AA hba;have HK7:=AA hk6;have hbl6:=(Array.getElem?_eq_some_iff.1 hbk).1;have d7:w6.cell? ⟨b,7,none⟩=some (.int .i64 x.s.els):=by rw[Lib.cell_of_heap hbk];rfl
   have e7:w6.frozen? ⟨b,7,none⟩=false:=Lib.frozen_of_heap hbk 7;have HNE:=AA hne0;clear hba hk6 hbk hne0;go_wp2_with fail
   go_ret;refine⟨rfl,HNE.out,HBA.out.other hne,?_⟩;refine(HK6.out.trans HK7.out (R:=fun k=>Mine g kv k\/k=b) (fun _ _ h=>h) (fun k hk h=>?_)).trans (AG.set (g:=b) (j:=7)) (fun _ _ h=>h) (fun _ _ h=>.inr h);exact .inl (Mine.onward HO2.out k hk h)
end
end Go.Proofs.YthfkpalfopdmhaaGreatDoor
namespace Go.Proofs.YthfkpalfopdmhaaGreatDoor
open Go.RowKit
theorem OU {L:List Tok} {i:Nat} {t:Tok} (h:L[i]?=some t):AN L i=t.pl:=by
 unfold AN;rw[if_pos (by omega),Int.toNat_natCast,h]
def sv0 (k:Int) (pl:Int):Sv:=⟨GR k pl,.slice none 0 0,.slice none 0 0⟩
section
variable {L:List Tok} {W0:World} {g:Nat} {lv:Value} {i d l m:Nat} {pl:Int} {K:List Sv} {kv:Value} {w:World} {b:Nat} {x:Sv}
theorem VY {cur:Array Value} {K:List Sv} (h:cur.toList.take (K.length*9)=Bc K):K.length*9<=cur.size:=by
 have h1:=congrArg List.length h;rw[List.length_take,J8]at h1;have h2:cur.toList.length=cur.size:=by simp
 omega
theorem QB5 {P Q:List Sv} {x y:Sv} {cur:Array Value} (h:cur.toList.take ((P++[x]++Q).length*9)=Bc (P++[x]++Q)) (a0 a1 a2 a3 a4 a5 a6 a7 a8:Value) (hy:A8 y=[a0,a1,a2,a3,a4,a5,a6,a7,a8]):
  (((((((((cur.setIfInBounds (P.length*9) a0).setIfInBounds (P.length*9+1) a1).setIfInBounds (P.length*9+2) a2).setIfInBounds (P.length*9+3) a3).setIfInBounds (P.length*9+4) a4).setIfInBounds (P.length*9+5) a5).setIfInBounds (P.length*9+6) a6).setIfInBounds (P.length*9+7) a7).setIfInBounds (P.length*9+8) a8).toList.take ((P++[y]++Q).length*9)=Bc (P++[y]++Q):=by
 have hl:(P++[y]++Q).length=(P++[x]++Q).length:=by simp
 rw[hl];apply List.ext_getElem?;intro j;have hx:(A8 x).length=9:=rfl;have hp:=J8 P;have e1:Bc (P++[x]++Q)=Bc P++(A8 x++Bc Q):=by rw[ER,ER,List.append_assoc];simp[Bc]
 have e2:Bc (P++[y]++Q)=Bc P++(A8 y++Bc Q):=by rw[ER,ER,List.append_assoc];simp[Bc]
 have hsz:=VY h;have hN:(P++[x]++Q).length*9=P.length*9+9+Q.length*9:=by simp only[List.length_append,List.length_cons,List.length_nil];omega
 have hj:=congrArg (fun l=>l[j]?) h;simp only[List.getElem?_take,Array.getElem?_toList]at hj;rw[List.getElem?_take,Array.getElem?_toList];simp only[Array.getElem?_setIfInBounds,Array.size_setIfInBounds];rw[e1]at hj;rw[e2,hy];by_cases h1:j<P.length*9
 ·rw[List.getElem?_append_left (by omega)]at hj⊢;rw[if_pos (by omega)]at hj⊢;rw[<-hj];simp only[show¬(P.length*9=j)from by omega,show¬(P.length*9+1=j)from by omega,show¬(P.length*9+2=j)from by omega,show¬(P.length*9+3=j)from by omega,show¬(P.length*9+4=j)from by omega,show¬(P.length*9+5=j)from by omega,show¬(P.length*9+6=j)from by omega,show¬(P.length*9+7=j)from by omega,show¬(P.length*9+8=j)from by omega,if_false]
 ·rw[List.getElem?_append_right (by omega)]at hj⊢;by_cases h2:j<P.length*9+9
  ·rw[if_pos (by omega)];obtain⟨q,rfl⟩:∃q,j=P.length*9+q:=⟨j-P.length*9,by omega⟩
   have hq:q=0\/q=1\/q=2\/q=3\/q=4\/q=5\/q=6\/q=7\/q=8:=by omega
   have hsz2:P.length*9+q<cur.size:=by omega
   rw[hp,Nat.add_sub_cancel_left,List.getElem?_append_left (by simp only[List.length_cons,List.length_nil];omega)];clear hj;rcases hq with rfl|rfl|rfl|rfl|rfl|rfl|rfl|rfl|rfl<;>simp[show P.length*9+8<cur.size from by omega,show P.length*9+7<cur.size from by omega,show P.length*9+6<cur.size from by omega,show P.length*9+5<cur.size from by omega,show P.length*9+4<cur.size from by omega,show P.length*9+3<cur.size from by omega,show P.length*9+2<cur.size from by omega,show P.length*9+1<cur.size from by omega,show P.length*9<cur.size from by omega]
  ·rw[List.getElem?_append_right (by rw[hx];omega),hx]at hj;rw[List.getElem?_append_right (by simp only[List.length_cons,List.length_nil];omega)];simp only[List.length_cons,List.length_nil];rw[<-hj];simp only[show¬(P.length*9=j)from by omega,show¬(P.length*9+1=j)from by omega,show¬(P.length*9+2=j)from by omega,show¬(P.length*9+3=j)from by omega,show¬(P.length*9+4=j)from by omega,show¬(P.length*9+5=j)from by omega,show¬(P.length*9+6=j)from by omega,show¬(P.length*9+7=j)from by omega,show¬(P.length*9+8=j)from by omega,if_false]
theorem Dc.fill {P Q:List Sv} {y:Sv} {gq cap:Nat} (h:Dc L W0 g lv i d l m pl (P++[x]++Q) (.slice (some ⟨gq,0,none⟩) (P++[x]++Q).length cap) w) (hre:B0 W0.heap.size w y.vE y.s.e) (hrf:B0 W0.heap.size w y.vF y.s.f) {p:Nat} (hp:p=P.length) {a0 a1 a2 a3 a4 a5 a6 a7 a8:Value} (hy:A8 y=[a0,a1,a2,a3,a4,a5,a6,a7,a8]) {w':World}
  (hw:w'=(((((((((w.setCell ⟨gq,p*9,none⟩ a0).setCell ⟨gq,p*9+1,none⟩ a1).setCell ⟨gq,p*9+2,none⟩ a2).setCell ⟨gq,p*9+3,none⟩ a3).setCell ⟨gq,p*9+4,none⟩ a4).setCell ⟨gq,p*9+5,none⟩ a5).setCell ⟨gq,p*9+6,none⟩ a6).setCell ⟨gq,p*9+7,none⟩ a7).setCell ⟨gq,p*9+8,none⟩ a8)):
  Dc L W0 g lv i d l m pl (P++[y]++Q) (.slice (some ⟨gq,0,none⟩) (P++[x]++Q).length cap) w'/\AG (fun k=>k=gq) w w':=by
 subst hp;have k1:∀{u:World} {j:Nat} {v:Value},AG (fun k=>k=gq) w u->AG (fun k=>k=gq) w (u.setCell ⟨gq,j,none⟩ v):=fun h=>h.trans AG.set (fun _ _ h=>h) (fun _ _ h=>h)
 have hk:AG (fun k=>k=gq) w w':=by rw[hw];exact k1 (k1 (k1 (k1 (k1 (k1 (k1 (k1 (k1 (AG.refl _ _)))))))))
 obtain⟨hgg,hlt,hB⟩:=h.own_ne gq rfl;have hm:∀q cs fr,w.heap[q]?=some (.cells cs 46 fr)->¬(q=gq):=fun q cs fr hh e=>h.mine_nodes q cs fr hh (.inr (by rw[e];rfl))
 refine⟨⟨h.low.trans (hk.below (fun k hk e=>by omega) h.low.size),h.gB,by rw[hk.block g h.lt (fun e=>hgg e.symm)];exact h.blk,?_,?_,?_,h.il,h.mi,h.dd,h.ll⟩,hk⟩
 ·refine⟨by rw[J8],?_⟩;have hl:(P++[y]++Q).length=(P++[x]++Q).length:=by simp
  rcases h.row.2 with⟨h0,_⟩|⟨g',cap',cur,h1,h2,h3,h4,h5,h6,h7⟩
  ·cases h0
  ·simp only[Value.slice.injEq,Option.some.injEq,Addr.mk.injEq]at h1;obtain⟨⟨rfl,_⟩,_,rfl⟩:=h1;refine .inr ⟨gq,cap,_,by rw[hl],h2,by rw[hw];exact Af (Af (Af (Af (Af (Af (Af (Af (Af h3)))))))),by omega,h5,by simpa using h6,QB5 h7 a0 a1 a2 a3 a4 a5 a6 a7 a8 hy⟩
 ·intro z hz;have hz':z∈P++[x]++Q\/z=y:=by
   simp only[List.mem_append,List.mem_cons,List.not_mem_nil,or_false]at hz⊢;rcases hz with(hz|hz)|hz
   ·exact .inl (.inl (.inl hz))
   ·exact .inr hz
   ·exact .inl (.inr hz)
  rcases hz' with hz|rfl
  ·obtain⟨r1,r2⟩:=h.rds z hz;exact⟨r1.keep hk hm,r2.keep hk hm⟩
  ·exact⟨hre.keep hk hm,hrf.keep hk hm⟩
 ·rw[<-h.len];simp
theorem YN:(Tryz.prog.info? 44).map (fun i=>(i.zero,i.size,i.bytes))=some (some (.agg #[.int .i64 0,.string ⟨#[]⟩,.string ⟨#[]⟩,.slice none 0 0,.slice none 0 0,.int .i64 0,.int .i64 0,.int .i64 0,.int .i64 0]),9,120):=by kernel_rfl
theorem AG.grown {w w':World} {row:Option Nat} (h:w.grownBy w' row):AG (fun k=>row=some k) w w':=⟨h.os,h.tape,h.output,h.size,fun k hk hg=>h.block k hk (fun e=>hg e.symm)⟩
theorem QB6 {x:Sv} (hE:∃A n c,x.vE=.slice A n c) (hF:∃A n c,x.vF=.slice A n c):∀u∈A8 x,u.oneCell'=true:=by
 obtain⟨A,n,c,h1⟩:=hE;obtain⟨A2,n2,c2,h2⟩:=hF;intro u hu;simp only[A8,h1,h2,List.mem_cons,List.not_mem_nil,or_false]at hu;rcases hu with rfl|rfl|rfl|rfl|rfl|rfl|rfl|rfl|rfl<;>rfl
theorem QEP {B n:Nat} {v:Value} {xs:List Value} {o:Obj} (h:w.ownsRow B 44 9 v n xs):(w.drew.alloc o).ownsRow B 44 9 v n xs:=Ja (P:=fun _=>False) h (AG.of ((AD w).alloc (Nat.le_refl _) o)) (fun _ _ h=>h)
theorem cell_grown {o:Obj} {w5:World} {v:Value} {j:Nat} (hg:(w.drew.alloc o).grownBy w5 kv.ownBlock) (hkv:∀q,kv.ownBlock=some q->q≠g) (hl:g<w.heap.size) (c:w.cell? ⟨g,j,none⟩=some v) (f:w.frozen? ⟨g,j,none⟩=false):w5.cell? ⟨g,j,none⟩=some v/\w5.frozen? ⟨g,j,none⟩=false:=by
 have hb:Below w.heap.size w (w.drew.alloc o):=(AD w).alloc (Nat.le_refl _) o;have e:=hg.block g (Nat.lt_of_lt_of_le hl hb.size) (fun e=>hkv g e.symm rfl);have e2:=hb.block g hl;exact⟨by rw[World.cell?_of_block (a:=⟨g,j,none⟩) (e.trans e2)];exact c,by rw[World.frozen?_of_block (a:=⟨g,j,none⟩) (e.trans e2)];exact f⟩
theorem Jc {B:Nat} {o:Obj} (h:B<=w.heap.size):B<=(w.drew.alloc o).heap.size:=by simp;omega
theorem Qh (w:World) (o:Obj):(w.drew.alloc o).heap[w.heap.size]?=some o:=heap_alloc_new w.drew o
theorem Dc.more (h:Dc L W0 g lv i d l m pl K kv w) (hm:m<40) (hmi:m+1<=i) (hil:i<=L.length) {w2 w5:World} {g5 cap:Nat} (hre:B0 W0.heap.size w5 x.vE x.s.e) (hrf:B0 W0.heap.size w5 x.vF x.s.f) (h2:AG (fun k=>k=g) w w2)
  (h2b:w2.heap[g]?=some (.cells #[lv,.int .i64 i,.int .i64 d,.int .i64 l,.int .i64 ((m+1:Nat):Int),kv,.int .i64 pl] 255 (0,0)))
  (hown:w5.ownsRow W0.heap.size 44 9 (.slice (some ⟨g5,0,none⟩) (K.length+1) cap) (K.length+1) (Bc K++A8 x)) (hg:w2.grownBy w5 kv.ownBlock) (hat:kv.ownBlock=some g5\/w.heap.size<=g5) (hgg:g5≠g):
  Dc L W0 g lv i d l (m+1) pl (K++[x]) (.slice (some ⟨g5,0,none⟩) (K.length+1) cap) (w5.setCell ⟨g,5,none⟩ (.slice (some ⟨g5,0,none⟩) (K.length+1) cap))/\AG (Mine g kv) w (w5.setCell ⟨g,5,none⟩ (.slice (some ⟨g5,0,none⟩) (K.length+1) cap))/\Dj kv (.slice (some ⟨g5,0,none⟩) (K.length+1) cap) w:=by
 have hkv:∀q,kv.ownBlock=some q->q≠g:=fun q hq=>(h.own_ne q hq).1
 have hg5:w5.heap[g]?=some (.cells #[lv,.int .i64 i,.int .i64 d,.int .i64 l,.int .i64 ((m+1:Nat):Int),kv,.int .i64 pl] 255 (0,0)):=by
  rw[hg.block g (Array.getElem?_eq_some_iff.1 h2b).1 (fun e=>hkv g e.symm rfl)];exact h2b
 have k5:AG (Mine g kv) w w5:=h2.trans (AG.grown hg) (fun _ _ h=>.inl h) (fun _ _ h=>.inr h);have k6:AG (Mine g kv) w (w5.setCell ⟨g,5,none⟩ (.slice (some ⟨g5,0,none⟩) (K.length+1) cap)):=k5.trans AG.set (fun _ _ h=>h) (fun _ _ h=>.inl h);have kg:AG (fun k=>k=g) w5 (w5.setCell ⟨g,5,none⟩ (.slice (some ⟨g5,0,none⟩) (K.length+1) cap)):=AG.set;have hl:=h.len;have hn5:∀q cs fr,w5.heap[q]?=some (.cells cs 46 fr)->¬(q=g):=fun q cs fr hh e=>by rw[e,hg5]at hh;simp at hh
 refine⟨⟨h.low.trans (k6.below h.mine_low h.low.size),h.gB,Af hg5,?_,?_,?_,?_,hmi,h.dd,h.ll⟩,k6,?_⟩
 ·rw[ER,List.length_append];have e1:Bc [x]=A8 x:=by simp[Bc]
  rw[e1];exact Ja hown kg (fun q hq e=>hgg (by simp[Value.ownBlock]at hq;rw[hq,e]))
 ·intro y hy;rcases List.mem_append.1 hy with h1|h1
  ·obtain⟨r1,r2⟩:=h.rds y h1;exact⟨(r1.keep k6 h.mine_nodes),(r2.keep k6 h.mine_nodes)⟩
  ·simp at h1;subst h1;exact⟨hre.keep kg hn5,hrf.keep kg hn5⟩
 ·rw[List.length_append,hl];simp only[List.length_cons,List.length_nil];omega
 ·exact .inl hil
 ·intro q hq;simp[Value.ownBlock]at hq;subst hq;exact hat
structure QGv (L:List Tok) (W0:World) (g:Nat) (lv:Value) (i d l m:Nat) (K:List Sv) (kv:Value) (b:Nat) (x:Sv) (w wx:World):Prop where
 go:∃pl1 kv1,IA L W0 g lv i (d+1) l (m+1) pl1 (K++(if m<40 then[x]else[])) kv1 b x wx/\Dj kv kv1 w
 keep:AG (Mine g kv) w wx
 fresh:w.heap.size<=b
theorem Tz {wd:List UInt8} {s s':Stm} {j:Nat} (h:plainW L wd s i=.ok s' j):s'.kind=s.kind/\s'.els=s.els:=by
 unfold plainW at h
 repeat' split at h
 all_goals
  obtain⟨a,j1,_,h2⟩:=VQ h;simp only[RS.ok.injEq]at h2;rw[<-h2.1];exact⟨rfl,rfl⟩
theorem FU {α β:Type} {r:RS α} {f:α->β} {e p:Int} (h:(r.bind fun a j=>RS.ok (f a) j)=.bad e p):r=.bad e p:=by
 cases r with
 |ok a j=>cases h
 |bad e' p'=>simpa using h
theorem IV {α:Type} {r:RS α} {e p:Int} (h:EZ L i r) (hr:r=.bad e p):e≠0:=by subst hr;exact h
theorem XG {wd:List UInt8} {s:Stm} {e p:Int} (h:plainW L wd s i=.bad e p):e≠0:=by
 unfold plainW at h;split at h
 ·exact IV (Ao L i) (FU h)
 split at h
 ·exact IV (Ao L i) (FU h)
 split at h
 ·exact IV (BO L i) (FU h)
 split at h
 ·exact IV (BO L i) (FU h)
 split at h
 ·exact IV (I3 L i) (FU h)
 exact IV (Ab L i wd) (FU h)
theorem T0 {r:RS (Bk×Bk)} {e:Ending} {w':World} (h:Jb L W0 g lv d l m K kv b x w r e w'):∃n,e=.returned (.int .i64 n):=by
 unfold Jb at h;split at h
 ·exact⟨_,h.1⟩
 ·exact⟨_,h.1⟩
set_option maxRecDepth 100000 in
set_option maxHeartbeats 4000000 in
theorem SN {row:DF} (hs:Src L W0 lv) (hB:Gm L W0 g lv row) (h:IA L W0 g lv i (d+1) l m pl K kv b x w) (hl:l<=d) {kn:Nat} (hk:x.s.kind=kn) (hk2:kn=11\/kn=12) (he:x.s.els=0) {r:RS (Bk×Bk)} (hr:Qg row L d l kn i=some r):
  Calls Tryz.prog 280 #[.pointer (some ⟨g,0,none⟩),.string ⟨#[98]⟩,.pointer (some ⟨b,0,none⟩)] w (Jb L W0 g lv d l m K kv b x w r):=by
 have HC:Hid (Calls Tryz.prog 291 #[.pointer (some ⟨g,0,none⟩),.pointer (some ⟨b,0,none⟩)] w (Jb L W0 g lv d l m K kv b x w r)):=AA (by
  rcases hk2 with rfl|rfl
  ·exact Zz hs hB h hk he hr
  ·exact VX hB h hl hk he hr)
 clear hs hB h hl hk hk2 he hr;go_enter Tryz.func280,Tryz.ntmps280;go_wp2_with fail
 refine HC.out.mono ?_;intro e w1 hp;have HP:=AA hp;obtain⟨n,rfl⟩:=T0 hp;clear hp;go_wp2_with fail
 go_ret;exact HP.out
theorem XH {n k:Nat} (h:n<15) (hw:(BP n)[k]?=some [98]):k+1=(BP n).length/\(n=11\/n=12):=by
 have:∀n:Fin 15,∀k:Fin 9,(BP n.1)[k.1]?=some [98]->k.1+1=(BP n.1).length/\(n.1=11\/n.1=12):=by decide
 have hk:=(List.getElem?_eq_some_iff.1 hw).1;have hl:=OT h;exact this ⟨n,h⟩ ⟨k,by omega⟩ hw
def YO (L:List Tok) (W0:World) (g:Nat) (lv:Value) (d l m:Nat) (kv:Value) (K1:List Sv) (b:Nat) (w:World) (row:DF) (ws:List (List UInt8)) (kn:Nat) (r:RS YG) (fb:Nat) (k:Nat) (wq:World):Prop:=
 ∃(o:YG) (i':Nat) (pl':Int) (K':List Sv) (kv':Value) (vE vF:Value),IA L W0 g lv i' (d+1) l (m+1+o.b.count+o.e.count) pl' (K1++K') kv' b ⟨o.s,vE,vF⟩ wq/\K'.map (·.s)=(o.b.flat++o.e.flat).take (40-K1.length)/\Dj kv kv' w/\AG (Mine g kv) w wq/\LD row L d l (ws.drop k) o i'=some r/\(k<ws.length->o.b=.nil/\o.e=.nil/\o.s.els=0)/\o.s.kind=kn/\∃fr,wq.heap[fb]?=some (.cells (ws.map fun l=>Value.string ⟨l.toArray⟩).toArray 9 fr)
theorem IA.not_words (h:IA L W0 g lv i d l m pl K kv b x w) {fb:Nat} {cs:Array Value} {fr:Nat×Nat} (hf:w.heap[fb]?=some (.cells cs 9 fr)):fb≠g/\fb≠b/\¬Mine g kv fb:=by
 have h1:fb≠g:=fun e=>by rw[e,h.st.blk]at hf;simp at hf
 refine⟨h1,fun e=>by rw[e,h.blk]at hf;simp at hf,?_⟩;rintro(e|e)
 ·exact h1 e
 ·obtain⟨_,cs',hh⟩:=Ik h.st.row fb e;rw[hh]at hf;simp at hf
theorem Z0 {α:Type} {l:List α} {k:Nat} {a:α} (h:l[k]?=some a):l.drop k=a::l.drop (k+1):=by
 obtain⟨hk,rfl⟩:=List.getElem?_eq_some_iff.1 h;exact List.drop_eq_getElem_cons hk
set_option maxRecDepth 100000 in
set_option maxHeartbeats 8000000 in
theorem one_step {row:DF} (hs:Src L W0 lv) (hB:Gm L W0 g lv row):YM L W0 g lv row:=by
 intro i d l m pl K kv w r h hmi hil hld hr;have HS:=AA h;have HC:=AA hs;have HBL:=AA hB;have hlen:=hs.len;by_cases hz:H8 L i l=0
 ·obtain⟨er,her⟩:∃er:Int,(if i<L.length then 5 else 6)=er:=⟨_,rfl⟩
  have hne0:er≠0:=by rw[<-her];split<;>decide
  have HER:=AA her;have h3:r=.bad er (AN L i):=by
   rw[XB hz]at hr;unfold badR at hr;rw[her]at hr;exact(Option.some.inj hr).symm
  subst h3;have HZ:=AA hz;clear h hs hB hr hz her;go_enter Tryz.func262,Tryz.ntmps262;go_wp2_with fail
  refine(QFd HC.out HS.out).mono ?_;rw[HZ.out];rintro e w1 ⟨rfl,hb1⟩;have HB1:=AA hb1;have HS1:=AA (HS.out.on hb1);clear hb1;go_wp2_with fail
  refine(OO HC.out HS1.out).mono ?_;rw[HER.out];rintro e w2 ⟨rfl,hs2,hk2⟩;have HS2:=AA hs2;have HK2:=AA hk2;clear hs2 hk2;go_wp2_with fail
  go_ret;exact⟨rfl,hne0,HS2.out.bad,(AG.of (P:=Mine g kv) HB1.out).trans HK2.out (fun _ _ h=>h) (fun _ _ h=>.inl h)⟩
 obtain⟨hz1,hz2,hz3,hz4,hz5⟩:=Zu hz;rw[<-Zs row L i d l hz2]at hr;obtain⟨t,ht⟩:∃t,L[i]?=some t:=⟨L[i],List.getElem?_eq_getElem hz5⟩
 rw[OU ht]at hr;obtain⟨kn,hkn⟩:∃kn,Aj L i=kn:=⟨_,rfl⟩
 rw[hkn]at hr hz1 hz3 hz4;have HZ:=AA hz1;have HR:=AA hr;have HT:=AA ht;clear h hs hB hr hz hz1 hz2 ht hkn;go_enter Tryz.func262,Tryz.ntmps262;go_wp2_with fail
 refine(QFd HC.out HS.out).mono ?_;rw[HZ.out];rintro e w1 ⟨rfl,hb1⟩;have HB1:=AA hb1;have HS1:=AA (HS.out.on hb1);clear hb1;have hk0:((kn:Int)==0)=false:=by simp;omega
 obtain⟨tb,tc,rfl,hc,hb0,hb00,t0,t1,t2,t3⟩:=HS1.out.tok HC.out HT.out;have hgl:=HS1.out.lt;have c0:=HS1.out.c0;have c1:=HS1.out.c1;have c4:=HS1.out.c4;have f4:=HS1.out.fz 4;have hi0:(0:Int)<=(i:Int):=by omega
 have hi1:(i:Int)<(L.length:Int):=by omega
 have hw1:IntKind.i64.wrap ((m:Int)+1)=(m:Int)+1:=IntWalk.i64_in _ (by omega);clear t0 t1 t2;obtain⟨i0,hi,hz0,hz1,hz2⟩:=info_parts YN;have HZI:=AA (show Tryz.prog.info? 44=some i0/\i0.zero=some (.agg #[.int .i64 0,.string ⟨#[]⟩,.string ⟨#[]⟩,.slice none 0 0,.slice none 0 0,.int .i64 0,.int .i64 0,.int .i64 0,.int .i64 0])/\i0.size=9/\i0.bytes=120 from⟨hi,hz0,hz1,hz2⟩);clear hi hz0 hz1 hz2;go_upto_region 4 with(fail)
 go_region
 go_upto_if 42 with(fail)
 obtain⟨X,hX⟩:∃X,((w1.setCell ⟨g,4,none⟩ (.int .i64 ((m:Int)+1))).alloc (.cells #[.int .i64 kn,.string ⟨#[]⟩,.string ⟨#[]⟩,.slice none 0 0,.slice none 0 0,.int .i64 0,.int .i64 0,.int .i64 0,.int .i64 t.pl] 44)).drew=X:=⟨_,rfl⟩
 rw[hX];obtain⟨b,hb⟩:∃b,w1.heap.size=b:=⟨_,rfl⟩
 rw[hb];have hXk:AG (fun k=>k=g) w1 X:=by
  rw[<-hX];refine(AG.set (g:=g) (j:=4) (w:=w1)).trans (AG.of (P:=fun _=>False) (w:=w1.setCell ⟨g,4,none⟩ (.int .i64 ((m:Int)+1))) ?_) (fun _ _ h=>h) (fun _ _ h=>h.elim);exact((Below.refl _ _).alloc (Nat.le_refl _) _).trans (EE _ _)
 have hXg:X.heap[g]?=some (.cells #[.slice (some ⟨tb,0,none⟩) L.length tc,.int .i64 i,.int .i64 ((d+1:Nat):Int),.int .i64 l,.int .i64 ((m+1:Nat):Int),kv,.int .i64 pl] 255 (0,0)):=by
  rw[<-hX];show((w1.setCell ⟨g,4,none⟩ (.int .i64 ((m:Int)+1))).alloc _).heap[g]?=_;rw[((Below.refl (w1.setCell ⟨g,4,none⟩ (.int .i64 ((m:Int)+1))).heap.size _).alloc (Nat.le_refl _) _).block g (by simpa using hgl),Af HS1.out.blk];simp
 have hXb:X.heap[b]?=some (.cells (A8 (sv0 kn t.pl)).toArray 44 (0,0)):=by
  rw[<-hX,<-hb];show((w1.setCell ⟨g,4,none⟩ (.int .i64 ((m:Int)+1))).alloc _).heap[w1.heap.size]?=_;have e:w1.heap.size=(w1.setCell ⟨g,4,none⟩ (.int .i64 ((m:Int)+1))).heap.size:=by simp
  rw[e,heap_alloc_new];rfl
 have hbf:w.heap.size<=b:=by rw[<-hb];exact HB1.out.size
 have hbX:b<X.heap.size:=(Array.getElem?_eq_some_iff.1 hXb).1;have hgX:g<X.heap.size:=(Array.getElem?_eq_some_iff.1 hXg).1;have HXK:=AA hXk;have HXG:=AA hXg;have HXB:=AA hXb;have hneb:¬b=g:=by omega
 have hneg:¬g=b:=by omega
 have HAS:Hid (Hu W0 g kv b):=AA ⟨hneb,fun e=>by have:=(HS1.out.own_ne b e).2.1;omega,by have:=HS1.out.low.size;omega⟩;have HKW:Hid (AG (Mine g kv) w X):=AA ((AG.of (P:=Mine g kv) HB1.out).trans hXk (fun _ _ h=>h) (fun _ _ h=>.inl h));clear hX hb hXk t3 c0 c1 c4 f4 hgl hb0
 go_cut [6,41]from 42 to 52 (fun a c wx=>a=.bool (decide ((m:Int)<40))/\c=.bool (decide ((m:Int)<40))/\QGv L W0 g (.slice (some ⟨tb,0,none⟩) L.length tc) i d l m K kv b (sv0 kn t.pl) w wx)
 case first=>
  by_cases hm:m<40
  ·have hmI:(m:Int)<40:=by omega
   have c5:X.cell? ⟨g,5,none⟩=some kv:=by rw[Lib.cell_of_heap hXg];rfl
   have f5:X.frozen? ⟨g,5,none⟩=false:=Lib.frozen_of_heap hXg 5;have z0:X.cell? ⟨b,0,none⟩=some (.int .i64 kn):=by rw[Lib.cell_of_heap hXb];rfl
   have z1:X.cell? ⟨b,1,none⟩=some (.string ⟨#[]⟩):=by rw[Lib.cell_of_heap hXb];rfl
   have z2:X.cell? ⟨b,2,none⟩=some (.string ⟨#[]⟩):=by rw[Lib.cell_of_heap hXb];rfl
   have z3:X.cell? ⟨b,3,none⟩=some (.slice none 0 0):=by rw[Lib.cell_of_heap hXb];rfl
   have z4:X.cell? ⟨b,4,none⟩=some (.slice none 0 0):=by rw[Lib.cell_of_heap hXb];rfl
   have z5:X.cell? ⟨b,5,none⟩=some (.int .i64 0):=by rw[Lib.cell_of_heap hXb];rfl
   have z6:X.cell? ⟨b,6,none⟩=some (.int .i64 0):=by rw[Lib.cell_of_heap hXb];rfl
   have z7:X.cell? ⟨b,7,none⟩=some (.int .i64 0):=by rw[Lib.cell_of_heap hXb];rfl
   have z8:X.cell? ⟨b,8,none⟩=some (.int .i64 t.pl):=by rw[Lib.cell_of_heap hXb];rfl
   have hKl:=HS1.out.len;have hK40:K.length<=40:=by omega
   clear hKl;have HROW:Hid (X.ownsRow W0.heap.size 44 9 kv K.length (Bc K)):=AA (Ja HS1.out.row HXK.out (fun q hq e=>(HS1.out.own_ne q hq).1 e));have HWB:Hid (W0.heap.size<=X.heap.size):=AA (Nat.le_trans HS1.out.low.size HXK.out.size);have HNO:Hid (∀q,kv.ownBlock=some q->q≠g):=AA (fun q hq=>(HS1.out.own_ne q hq).1);clear hXg hXb;go_wp2_with fail
   go_region_law (refine step_append_lies _ rfl (.tmp 47) (.tmp 49) 39 rfl W0.heap.size 44 i0 (.agg #[.int .i64 0,.string ⟨#[]⟩,.string ⟨#[]⟩,.slice none 0 0,.slice none 0 0,.int .i64 0,.int .i64 0,.int .i64 0,.int .i64 0]) 9 120 Tryz.underlying39 HZI.out.1 HZI.out.2.1 HZI.out.2.2.1 HZI.out.2.2.2 rfl (by decide) kv K.length (Bc K) (by rfl) (QEP HROW.out) ⟨X.heap.size,0,none⟩ 1 1 (A8 (sv0 kn t.pl)) (by rfl) (by rfl) (World.news_of_block (cs:=(A8 (sv0 kn t.pl)).toArray) (Qh X _)) (QB6 ⟨_,_,_,rfl⟩ ⟨_,_,_,rfl⟩) (by decide) (by unfold maxLen;omega) (by omega) (Jc HWB.out) (X.heap.size+1) (by simp) ?_;intro g5 cap w5 hown5 hgrow5 hat5 hlt5;obtain⟨d5,e5⟩:=cell_grown hgrow5 HNO.out hgX c5 f5;have hg5:g<w5.heap.size:=Nat.lt_of_lt_of_le hgX (Nat.le_trans (by simp) hgrow5.size))
   all_goals
    have HOW:=AA hown5;have HGR:=AA hgrow5;have HAT:=AA hat5;clear hown5 hgrow5 hat5;go_wp2_with fail
    go_meet;case rel=>
     refine⟨congrArg Value.bool (decide_eq_true hmI).symm,congrArg Value.bool (decide_eq_true hmI).symm,?_⟩;have hk2:AG (fun k=>k=g) X (X.drew.alloc (.cells (A8 (sv0 kn t.pl)).toArray 44)):=AG.of ((AD X).alloc (Nat.le_refl _) _);have hk3:=HXK.out.trans hk2 (R:=fun k=>k=g) (fun _ _ h=>h) (fun _ _ h=>h);have hgf:g5≠g:=by
      rcases HAT.out with h1|h1
      ·exact HNO.out g5 h1
      ·omega
     have hge:kv.ownBlock=some g5\/w1.heap.size<=g5:=by
      rcases HAT.out with h1|h1
      ·exact .inl h1
      ·exact .inr (by have:=HXK.out.size;omega)
     obtain⟨q1,q2,q3⟩:=HS1.out.more (x:=sv0 kn t.pl) hm hmi hil (IU _ _) (IU _ _) hk3 (by rw[((AD X).alloc (Nat.le_refl _) _).block g hgX];exact HXG.out) HOW.out HGR.out hge hgf;have hX5:AG (Mine g kv) X (w5.setCell ⟨g,5,none⟩ (.slice (some ⟨g5,0,none⟩) (K.length+1) cap)):=((hk2.trans (AG.grown HGR.out) (R:=Mine g kv) (fun _ _ h=>.inl h) (fun _ _ h=>.inr h))).trans AG.set (fun _ _ h=>h) (fun _ _ h=>.inl h)
     refine⟨⟨pl,_,⟨by rw[if_pos hm];exact q1,by rw[hX5.block b hbX HAS.out.not_mine];exact HXB.out,IU _ _,IU _ _,?_⟩,(Dj.refl kv w).trans q3 HB1.out.size⟩,HKW.out.trans hX5 (fun _ _ h=>h) (fun _ _ h=>h),hbf⟩;refine⟨HAS.out.ne,fun e=>?_,HAS.out.low⟩;simp[Value.ownBlock]at e;subst e;rcases HAT.out with h1|h1
     ·exact HAS.out.own h1
     ·omega
  ·have hmI:¬(m:Int)<40:=by omega
   clear hXg hXb;go_wp2_with fail
   go_meet;case rel=>
    refine⟨rfl,rfl,?_⟩;have hst:=HS1.out.put (m':=m+1) (d':=d+1) (l':=l) (i':=i) (pl':=pl) HXK.out HXG.out (by omega) (.inl hil) hmi HS1.out.dd HS1.out.ll;exact⟨⟨pl,kv,⟨by rw[if_neg hm,List.append_nil];exact hst,HXB.out,IU _ _,IU _ _,HAS.out⟩,Dj.refl _ _⟩,HKW.out,hbf⟩
 case rest=>
  obtain⟨rfl,rfl,hbeg⟩:=hcut;obtain⟨⟨pl1,kv1,hx1,ho1⟩,hk1,_⟩:=hbeg;have HX1:=AA hx1;have HO1:=AA ho1;have HK1:=AA hk1;clear hx1 ho1 hk1 hXg hXb HXK HXG HXB HKW hbX hgX;obtain⟨K1,hK1⟩:∃K1,K++(if m<40 then[sv0 kn t.pl]else[])=K1:=⟨_,rfl⟩
  rw[hK1]at HX1;have HKK:=AA hK1;have hkn15:kn<15:=by omega
  have HTW:=AA (HX1.out.st.tabs HC.out);have hcl:=HTW.out.form hkn15;have htl:=HTW.out.lt;have hfl:=OS hkn15;have hki:(kn:Int)<15:=by omega
  have hki0:(0:Int)<=(kn:Int):=by omega
  clear hK1;go_wp2_with fail
  refine(Tryz.strings_Fields ⟨(CN kn).toArray⟩ _ (by show(CN kn).length<_;omega) (by simpa using O1 hkn15) HTW.out.space).mono ?_;rw[show(ByteArray.mk (CN kn).toArray).data.toList=CN kn from by simp,NX hkn15];rintro e4 w4 ⟨rfl,rfl⟩;have hb4:=(Below.refl wc.heap.size wc).alloc (Nat.le_refl _) (.cells ((BP kn).map fun l=>Value.string ⟨l.toArray⟩).toArray 9)
  have HL0:Hid (YO L W0 g (.slice (some ⟨tb,0,none⟩) L.length tc) d l m kv K1 b w row (BP kn) kn r wc.heap.size 0 (wc.alloc (.cells ((BP kn).map fun l=>Value.string ⟨l.toArray⟩).toArray 9))):=AA ⟨⟨GR kn t.pl,.nil,.nil⟩,i,pl1,[],kv1,_,_,by rw[List.append_nil];exact HX1.out.on hb4,by simp[Bk.flat],HO1.out,HK1.out.trans (AG.of (P:=fun _=>False) hb4) (fun _ _ h=>h) (fun _ _ h=>h.elim),HR.out,fun _=>⟨rfl,rfl,rfl⟩,rfl,(0,0),heap_alloc_new wc _⟩;have HWL:=AA (show∀k wd,(BP kn)[k]?=some wd->wd.length<=6 from fun k wd h=>VR hkn15 h)
  have HWB:=AA (show∀k,(BP kn)[k]?=some [98]->k+1=(BP kn).length/\(kn=11\/kn=12)from fun k h=>XH hkn15 h);have hwl:=OT hkn15;generalize hw4:wc.alloc (.cells ((BP kn).map fun l=>Value.string ⟨l.toArray⟩).toArray 9)=w4 at *;generalize hfbq:wc.heap.size=fb at *;generalize hws:BP kn=ws at *;clear hw4 hfbq hws hcl htl hfl HTW hb4 HX1 HO1 HK1 HR;obtain⟨n,hn⟩:∃n,ws.length=n:=⟨_,rfl⟩
  have HN:=AA hn;rw[hn]at hwl⊢;clear hn;go_wp2_with fail
  go_loopw [58] (fun j wq=>∃k:Nat,k<=n/\j=.int .i64 k/\YO L W0 g (.slice (some ⟨tb,0,none⟩) L.length tc) d l m kv K1 b w row ws kn r fb k wq) (fun j _=>n-(intOf j).toNat)
  case atStart=>exact⟨0,Nat.zero_le _,rfl,HL0.out⟩
  case round=>
   obtain⟨k,hk,rfl,o,i',pl',K',kv',vE,vF,hst,hmp,hon,hkp,hwp,hnl,hkd,fr,hfb⟩:=hrel;have HST:=AA hst;have HMP:=AA hmp;have HON:=AA hon;have HKP:=AA hkp;have HNL:=AA hnl;have HKD:=AA hkd;have HFB:=AA hfb;have hfbl:fb<wr.heap.size:=(Array.getElem?_eq_some_iff.1 hfb).1;have hw1k:IntKind.i64.wrap ((k:Int)+1)=(k:Int)+1:=IntWalk.i64_in _ (by omega);obtain⟨nw1,nw2,nw3⟩:=hst.not_words hfb;clear hst hmp hon hkp hnl hkd;rcases Nat.lt_or_ge k n with hlt|hge;case inl=>
    obtain⟨wd,hwd⟩:∃wd,ws[k]?=some wd:=⟨ws[k]'(by rw[HN.out];omega),List.getElem?_eq_getElem _⟩
    have hcw:wr.cell? ⟨fb,k,none⟩=some (.string ⟨wd.toArray⟩):=by rw[cell_of_row wr fb k _ _ fr hfb];simp[hwd]
    rw[Z0 hwd]at hwp;have hwp:RS.obind (Qd row L d l wd o i') (fun o j=>LD row L d l (ws.drop (k+1)) o j)=some r:=hwp;clear hfb;by_cases cb:wd=[98]
    ·subst cb;obtain⟨hlast,h1112⟩:=HWB.out k hwd;rw[HN.out]at hlast;obtain⟨on1,on2,on3⟩:=HNL.out (by rw[HN.out];omega);have HKX:=HKD.out;have hwp2:RS.obind (Qg row L d l kn i') (fun tu j=>LD row L d l (ws.drop (k+1)) ⟨{o.s with body:=tu.1.count,els:=tu.2.count},tu.1,tu.2⟩ j)=some r:=by
      rw[<-hwp];unfold Qd Qg;simp only[List.cons.injEq,and_true,show¬((98:UInt8)=114)from by decide,show¬((98:UInt8)=110)from by decide,show¬((98:UInt8)=101)from by decide,show¬((98:UInt8)=102)from by decide,show¬((98:UInt8)=107)from by decide,if_false,if_true,I6,RS.obind_ok,HKX,Int.toNat_natCast]
     have hcnt:m+1+o.b.count+o.e.count=m+1:=by rw[on1,on2];rfl
     have hKn:K'=[]:=by have:=HMP.out;rw[on1,on2]at this;simpa[Bk.flat]using this
     subst hKn;rw[hcnt,List.append_nil]at HST;clear hwp hwd;rcases RS.obind_some hwp2 with⟨tu,j2,g1,g2⟩|⟨er,p,g1,rfl⟩
     ·have HB6:=AA g1;have HW2:=AA g2;have HE3:=AA on3;clear g1 g2 hwp2 on1 on2 on3 HKX;go_wp2_with fail
      refine(SN HC.out HBL.out HST.out hld HKD.out h1112 HE3.out HB6.out).mono ?_;rintro e6 w6 ⟨rfl,⟨pl6,K6,kv6,hx6,hm6,ho6⟩,hk6⟩;have HREL:Hid (YO L W0 g (.slice (some ⟨tb,0,none⟩) L.length tc) d l m kv K1 b w row ws kn r fb (k+1) w6):=AA ⟨⟨{o.s with body:=tu.1.count,els:=tu.2.count},tu.1,tu.2⟩,j2,pl6,K6,kv6,vE,vF,hx6,hm6,HON.out.trans ho6 HKP.out.size,HKP.out.trans hk6 (fun _ _ h=>h) (fun q hq h=>by
       rcases h with h|h
       ·exact Mine.onward HON.out q hq h
       ·omega),HW2.out,fun h=>absurd h (by rw[HN.out];omega),HKD.out,fr,by rw[hk6.block fb hfbl (fun h=>h.elim nw3 nw2)];exact HFB.out⟩
      clear hx6 hm6 ho6 hk6;go_wp2_with fail
      go_roundw;case rel=>exact⟨k+1,by omega,by go_num,HREL.out⟩
      case measure=>simp[intOf];omega
     ·have HB6:=AA g1;have HE3:=AA on3;clear g1 hwp2 on1 on2 on3 HKX;go_wp2_with fail
      refine(SN HC.out HBL.out HST.out hld HKD.out h1112 HE3.out HB6.out).mono ?_;rintro e6 w6 ⟨rfl,hne0,hba,hk6⟩;have hz2:(er != 0)=true:=by simp[hne0]
      have HRES:Hid (PO L W0 g (.slice (some ⟨tb,0,none⟩) L.length tc) d l m K kv w (.bad er p) (.returned (.int .i64 er)) w6):=AA ⟨rfl,hne0,hba,HKP.out.trans hk6 (fun _ _ h=>h) (fun q hq h=>by
       rcases h with h|h
       ·exact Mine.onward HON.out q hq h
       ·omega)⟩
      clear hba hk6 hne0;go_wp2_with fail
      go_ret;exact HRES.out
    ·rw[VU row L d l o i' cb,I6]at hwp;clear hwd;cases hpw:plainW L wd o.s i' with
     |ok s' j'=>
      rw[hpw]at hwp;have HW2:Hid (LD row L d l (ws.drop (k+1)) ⟨s',o.b,o.e⟩ j'=some r):=AA hwp;obtain⟨e1,e2⟩:=Tz hpw;have HE1:=AA e1;have HE2:=AA e2;have HPW:=AA hpw;clear hwp hpw e1 e2;go_wp2_with fail
      refine(O7 HC.out HST.out cb).mono ?_;show∀e w',Reads (plainW L wd o.s i') _ _ _ _ _ e w'->_;rw[HPW.out];rintro e6 w6 ⟨rfl,⟨vE6,vF6,pl6,hx6⟩,hk6⟩;have HREL:Hid (YO L W0 g (.slice (some ⟨tb,0,none⟩) L.length tc) d l m kv K1 b w row ws kn r fb (k+1) w6):=AA ⟨⟨s',o.b,o.e⟩,j',pl6,K',kv',vE6,vF6,hx6,HMP.out,HON.out,HKP.out.trans hk6 (fun _ _ h=>h) (fun q hq h=>by
       rcases h with h|h
       ·exact .inl h
       ·omega),HW2.out,fun h=>by
        obtain⟨n1,n2,n3⟩:=HNL.out (by omega);exact⟨n1,n2,by rw[<-n3];exact HE2.out⟩,HE1.out.trans HKD.out,fr,by rw[hk6.block fb hfbl (fun h=>h.elim nw1 nw2)];exact HFB.out⟩
      clear hx6 hk6;go_wp2_with fail
      go_roundw;case rel=>exact⟨k+1,by omega,by go_num,HREL.out⟩
      case measure=>simp[intOf];omega
     |bad er p=>
      rw[hpw]at hwp;obtain rfl:RS.bad er p=r:=Option.some.inj hwp;have hne0:=XG hpw;have hz2:(er != 0)=true:=by simp[hne0]
      have HPW:=AA hpw;have HNE:=AA hne0;clear hwp hpw hne0;go_wp2_with fail
      refine(O7 HC.out HST.out cb).mono ?_;show∀e w',Reads (plainW L wd o.s i') _ _ _ _ _ e w'->_;rw[HPW.out];rintro e6 w6 ⟨rfl,hba,hk6⟩;have HRES:Hid (PO L W0 g (.slice (some ⟨tb,0,none⟩) L.length tc) d l m K kv w (.bad er p) (.returned (.int .i64 er)) w6):=AA ⟨rfl,HNE.out,hba,HKP.out.trans hk6 (fun _ _ h=>h) (fun q hq h=>by
       rcases h with h|h
       ·exact .inl h
       ·omega)⟩
      clear hba hk6;go_wp2_with fail
      go_ret;exact HRES.out
   case inr=>
    obtain rfl:k=n:=by omega
    rw[List.drop_eq_nil_of_le (by rw[HN.out];exact Nat.le_refl _)]at hwp;obtain rfl:RS.ok o i'=r:=Option.some.inj hwp;clear hwp hfb;by_cases hm:m<40
    ·have hmI:(m:Int)<40:=by omega
     have hKK:=HKK.out;rw[if_pos hm]at hKK;have hKl:=HS1.out.len;have hKm:K.length=m:=by omega
     have hgl:=HST.out.st.lt;have c5:=HST.out.st.c5;have hbl:=HST.out.lt;obtain⟨gq,cap,cur,hkv,hgq,hB,hcap,hrow⟩:∃gq cap cur,kv'=.slice (some ⟨gq,0,none⟩) (K1++K').length cap/\wr.heap[gq]?=some (.cells cur 44 (0,0))/\W0.heap.size<=gq/\cur.size=cap*9/\cur.toList.take ((K1++K').length*9)=Bc (K1++K'):=by
      rcases HST.out.st.row.2 with⟨_,h0⟩|⟨gq,cap,cur,h1,h2,h3,h4,h5,h6,h7⟩
      ·rw[<-hKK]at h0;simp at h0
      ·exact⟨gq,cap,cur,h1,h3,h2,h6,h7⟩
     have hKN:m<(K1++K').length:=by rw[<-hKK];simp only[List.length_append,List.length_cons,List.length_nil];omega
     have hcur:∀j,j<9->∃v,wr.cell? ⟨gq,m*9+j,none⟩=some v:=by
      intro j hj;have hlt:m*9+j<cur.size:=by
       have h1:=VY hrow;have h2:m*9+9<=(K1++K').length*9:=by have:=Nat.mul_le_mul_right 9 (Nat.succ_le_of_lt hKN);omega
       omega
      exact⟨cur[m*9+j],by rw[Lib.cell_of_heap hgq];simp[hlt]⟩
     obtain⟨v0,u0⟩:=hcur 0 (by omega);obtain⟨v1,u1⟩:=hcur 1 (by omega);obtain⟨v2,u2⟩:=hcur 2 (by omega);obtain⟨v3,u3⟩:=hcur 3 (by omega);obtain⟨v4,u4⟩:=hcur 4 (by omega);obtain⟨v5,u5⟩:=hcur 5 (by omega);obtain⟨v6,u6⟩:=hcur 6 (by omega);obtain⟨v7,u7⟩:=hcur 7 (by omega);obtain⟨v8,u8⟩:=hcur 8 (by omega);have y0:=Lib.frozen_of_heap hgq (m*9);have y1:=Lib.frozen_of_heap hgq (m*9+1);have y2:=Lib.frozen_of_heap hgq (m*9+2);have y3:=Lib.frozen_of_heap hgq (m*9+3);have y4:=Lib.frozen_of_heap hgq (m*9+4);have y5:=Lib.frozen_of_heap hgq (m*9+5);have y6:=Lib.frozen_of_heap hgq (m*9+6);have y7:=Lib.frozen_of_heap hgq (m*9+7)
     have y8:=Lib.frozen_of_heap hgq (m*9+8);have hblk:=HST.out.blk;have z0:wr.cell? ⟨b,0,none⟩=some (.int .i64 o.s.kind):=by rw[Lib.cell_of_heap hblk];rfl
     have z1:wr.cell? ⟨b,1,none⟩=some (.string ⟨o.s.reg.toArray⟩):=by rw[Lib.cell_of_heap hblk];rfl
     have z2:wr.cell? ⟨b,2,none⟩=some (.string ⟨o.s.name.toArray⟩):=by rw[Lib.cell_of_heap hblk];rfl
     have z3:wr.cell? ⟨b,3,none⟩=some vE:=by rw[Lib.cell_of_heap hblk];rfl
     have z4:wr.cell? ⟨b,4,none⟩=some vF:=by rw[Lib.cell_of_heap hblk];rfl
     have z5:wr.cell? ⟨b,5,none⟩=some (.int .i64 o.s.n):=by rw[Lib.cell_of_heap hblk];rfl
     have z6:wr.cell? ⟨b,6,none⟩=some (.int .i64 o.s.body):=by rw[Lib.cell_of_heap hblk];rfl
     have z7:wr.cell? ⟨b,7,none⟩=some (.int .i64 o.s.els):=by rw[Lib.cell_of_heap hblk];rfl
     have z8:wr.cell? ⟨b,8,none⟩=some (.int .i64 o.s.pl):=by rw[Lib.cell_of_heap hblk];rfl
     obtain⟨AE,nE,cE,hvE⟩:∃A n c,vE=.slice A n c:=by obtain⟨A,c,h,_⟩:=HST.out.re.rd;exact⟨A,_,c,h⟩
     obtain⟨AF,nF,cF,hvF⟩:∃A n c,vF=.slice A n c:=by obtain⟨A,c,h,_⟩:=HST.out.rf.rd;exact⟨A,_,c,h⟩
     have HGQ:=AA hgq;have HROW:=AA hrow;have HKv:=AA hkv;have HKQ:=AA hKK;have hgql:gq<wr.heap.size:=(Array.getElem?_eq_some_iff.1 hgq).1;rw[hkv]at c5;rw[hvE]at z3;rw[hvF]at z4;obtain⟨NN,hNN⟩:∃NN,(K1++K').length=NN:=⟨_,rfl⟩
     rw[hNN]at c5 hKN;have HNN:=AA hNN;have hmi0:(0:Int)<=(m:Int):=by omega
     have hmi1:(m:Int)<(NN:Int):=by omega
     simp only[Nat.add_zero]at u0;clear hcur hblk hgq hrow hkv hKK hKl hNN hcap hB;go_wp2_with fail
     go_region
     go_wp2_with fail
     go_ret;have hst2:=HST.out.st;rw[HKv.out,<-HKQ.out]at hst2;have hKP:K++[sv0 kn t.pl]++K'=K1++K':=by rw[HKQ.out]
     obtain⟨q1,q2⟩:=hst2.fill (y:=⟨o.s,vE,vF⟩) HST.out.re HST.out.rf hKm.symm (by rw[hvE,hvF];rfl) rfl;have hmine:∀q,q<w.heap.size->q=gq->Mine g kv q:=by
      intro q hq e;exact Mine.onward HON.out q hq (.inr (by rw[HKv.out,e];rfl))
     refine⟨rfl,⟨pl',⟨o.s,vE,vF⟩::K',.slice (some ⟨gq,0,none⟩) (K++[sv0 kn t.pl]++K').length cap,?_,?_,?_⟩,?_⟩
     ·have q3:=q1.on (AD _);rw[List.append_assoc]at q3;exact q3
     ·have hK1:=congrArg List.length HKQ.out;simp only[List.length_append,List.length_cons,List.length_nil]at hK1;rw[List.map_cons,HMP.out,show 40-K.length=(40-K1.length)+1 from by omega,List.take_succ_cons]
     ·rw[hKP,<-HKv.out];exact HON.out
     ·exact(HKP.out.trans q2 (R:=Mine g kv) (fun _ _ h=>h) hmine).trans (AG.of (P:=fun _=>False) (AD _)) (fun _ _ h=>h) (fun _ _ h=>h.elim)
    ·have hmI:¬(m:Int)<40:=by omega
     have HRES:Hid (PO L W0 g (.slice (some ⟨tb,0,none⟩) L.length tc) d l m K kv w (.ok o i') (.returned (.int .i64 0)) wr):=AA (by
      have hKK:=HKK.out;rw[if_neg hm,List.append_nil]at hKK;subst hKK;have hl40:=HS1.out.len;have:40-K.length=0:=by omega
      refine⟨rfl,⟨pl',K',kv',HST.out.st,?_,HON.out⟩,HKP.out⟩;rw[HMP.out,this,List.take_zero,List.take_zero])
     go_wp2_with fail
     go_ret;exact HRES.out
end
end Go.Proofs.YthfkpalfopdmhaaGreatDoor
