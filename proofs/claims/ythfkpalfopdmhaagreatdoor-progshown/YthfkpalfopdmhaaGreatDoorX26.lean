/- Texts of the walk, packed. -/
import Derived.Test.YthfkpalfopdmhaaGreatDoorX25
import Derived.Test.YthfkpalfopdmhaaGreatDoorX23
import Derived.Test.YthfkpalfopdmhaaGreatDoorX00
namespace Go.Proofs.YthfkpalfopdmhaaGreatDoor
open Go.RowKit
def Dq (kv kv':Value) (w:World):Prop:=∀q,kv'.ownBlock=some q→kv.ownBlock=some q∨w.heap.size≤q
theorem Dq.refl (kv:Value) (w:World):Dq kv kv w:=fun _ h=>.inl h
theorem Dq.trans {k1 k2 k3:Value} {w1 w2:World} (h:Dq k1 k2 w1) (h2:Dq k2 k3 w2) (hs:w1.heap.size≤w2.heap.size):Dq k1 k3 w1:=by
 intro q hq;rcases h2 q hq with h3|h3
 ·exact h q h3
 ·exact .inr (by omega)
section
variable {L:List Tok} {W0:World} {g:Nat} {lv:Value} {i d l m:Nat} {pl:Int} {K:List Sv} {kv:Value} {w:World} {b:Nat} {x:Sv}
theorem Mine.onward {kv':Value} (h:Dq kv kv' w):∀k,k<w.heap.size→Mine g kv' k→Mine g kv k:=by
 rintro k hk (rfl|h1)
 ·exact .inl rfl
 ·rcases h k h1 with h2|h2
  ·exact .inr h2
  ·omega
theorem H5.onward {kv':Value} (h:H5 W0 g kv b) (ho:Dq kv kv' w) (hb:b<w.heap.size):H5 W0 g kv' b:=
 ⟨h.ne,fun e=>by rcases ho b e with h1|h1;exact h.own h1;omega,h.low⟩
theorem H5.not_mine (h:H5 W0 g kv b):¬Mine g kv b:=by
 rintro(h1|h1)
 ·exact h.ne h1
 ·exact h.own h1
def RY (L:List Tok) (W0:World) (g:Nat) (lv:Value) (d l m:Nat) (K:List Sv) (kv:Value) (w:World) (r:RS Bk) (e:Ending) (w':World):Prop:=match r with
 |.ok t j=>e=.returned (.tuple #[.int .i64 (t.count:Nat),.int .i64 0])∧(∃pl' K' kv',Dm L W0 g lv j d l (m+t.count) pl' (K++K') kv' w'∧K'.map (·.s)=t.flat.take (40-K.length)∧Dq kv kv' w)∧AG (Mine g kv) w w'
 |.bad er p=>e=.returned (.tuple #[.int .i64 0,.int .i64 er])∧er≠0∧Hl g lv p w'∧AG (Mine g kv) w w'
def Gu (L:List Tok) (W0:World) (g:Nat) (lv:Value) (row:CU):Prop:=∀(i d l m:Nat) (pl:Int) (K:List Sv) (kv:Value) (w:World) (r:RS Bk),Dm L W0 g lv i d l m pl K kv w→Bz row L i d l=some r→Calls Tryz.prog 235 #[.pointer (some ⟨g,0,none⟩)] w (RY L W0 g lv d l m K kv w r)
def Oi (L:List Tok) (W0:World) (g:Nat) (lv:Value) (d l m:Nat) (K:List Sv) (kv:Value) (w:World) (r:RS V7) (e:Ending) (w':World):Prop:=match r with
 |.ok o j=>e=.returned (.int .i64 0)∧(∃pl' K' kv',Dm L W0 g lv j (d+1) l (m+1+o.b.count+o.e.count) pl' (K++K') kv' w'∧K'.map (·.s)=(o.s::(o.b.flat++o.e.flat)).take (40-K.length)∧Dq kv kv' w)∧AG (Mine g kv) w w'
 |.bad er p=>e=.returned (.int .i64 er)∧er≠0∧Hl g lv p w'∧AG (Mine g kv) w w'
def Xh (L:List Tok) (W0:World) (g:Nat) (lv:Value) (row:CU):Prop:=∀(i d l m:Nat) (pl:Int) (K:List Sv) (kv:Value) (w:World) (r:RS V7),Dm L W0 g lv i (d+1) l m pl K kv w→m+1≤i→i≤L.length→l≤d→GO row L i d l=some r→Calls Tryz.prog 262 #[.pointer (some ⟨g,0,none⟩)] w (Oi L W0 g lv d l m K kv w r)
def P9 (row:CU) (L:List Tok) (d l k i:Nat):Option (RS (Bk×Bk)):=RS.obind (Bz row L i (d+1) (Yn k l)) fun t j=>RS.obind (Df row L k j (d+1) (Yn k l)) fun u j=>some (.ok (t,u) j)
def Jb (L:List Tok) (W0:World) (g:Nat) (lv:Value) (d l m:Nat) (K:List Sv) (kv:Value) (b:Nat) (x:Sv) (w:World) (r:RS (Bk×Bk)) (e:Ending) (w':World):Prop:=match r with
 |.ok t j=>e=.returned (.int .i64 0)∧(∃pl' K' kv',ID L W0 g lv j (d+1) l (m+t.1.count+t.2.count) pl' (K++K') kv' b ⟨{x.s with body:=t.1.count,els:=t.2.count},x.vE,x.vF⟩ w'∧K'.map (·.s)=(t.1.flat++t.2.flat).take (40-K.length)∧Dq kv kv' w)∧AG (fun k=>Mine g kv k∨k=b) w w'
 |.bad er p=>e=.returned (.int .i64 er)∧er≠0∧Hl g lv p w'∧AG (fun k=>Mine g kv k∨k=b) w w'
theorem Hl.cell3 {p:Int} (h:Hl g lv p w):∃z:Int,w.cell? ⟨g,3,none⟩=some (.int .i64 z)∧w.frozen? ⟨g,3,none⟩=false∧g<w.heap.size:=by
 obtain⟨a,b,c,d,e,h⟩:=h;exact⟨c,by rw[Lib.cell_of_heap h];rfl,Lib.frozen_of_heap h 3,(Array.getElem?_eq_some_iff.1 h).1⟩
theorem Hl.set3 {p z:Int} (h:Hl g lv p w):Hl g lv p (w.setCell ⟨g,3,none⟩ (.int .i64 z)):=by
 obtain⟨a,b,c,d,e,h⟩:=h;exact⟨a,b,z,d,e,Am h⟩
theorem Hl.other {p:Int} {q j:Nat} {v:Value} (h:Hl g lv p w) (hq:q≠g):Hl g lv p (w.setCell ⟨q,j,none⟩ v):=by
 obtain⟨a,b,c,d,e,h⟩:=h;exact⟨a,b,c,d,e,by rw[Below.heap_setCell _ _ _ _ (fun e=>hq e.symm)];exact h⟩
theorem QA9 {p:Int} {w':World} (h:Hl g lv p w) (hb:Below w.heap.size w w'):Hl g lv p w':=by
 obtain⟨a,b,c,d,e,h⟩:=h;exact⟨a,b,c,d,e,by rw[hb.block g (Array.getElem?_eq_some_iff.1 h).1];exact h⟩
theorem ID.go (h:ID L W0 g lv i d l m pl K kv b x w) {w':World} {i' d' l' m':Nat} {pl':Int} {K':List Sv} {kv':Value} (hs:Dm L W0 g lv i' d' l' m' pl' K' kv' w') (hk:AG (Mine g kv) w w') (ho:Dq kv kv' w):ID L W0 g lv i' d' l' m' pl' K' kv' b x w':=by
 have hlt:=(Array.getElem?_eq_some_iff.1 h.blk).1;exact⟨hs,by rw[hk.block b hlt h.sd.not_mine];exact h.blk,h.re.keep hk h.st.mine_nodes,h.rf.keep hk h.st.mine_nodes,h.sd.onward ho hlt⟩
theorem ID.put (h:ID L W0 g lv i d l m pl K kv b x w) {j:Nat} {v:Value} {y:Sv} (hy:(Be x).toArray.setIfInBounds j v=(Be y).toArray) (he:y.vE=x.vE) (hf:y.vF=x.vF) (he2:y.s.e=x.s.e) (hf2:y.s.f=x.s.f):ID L W0 g lv i d l m pl K kv b y (w.setCell ⟨b,j,none⟩ v):=by
 have hk:AG (fun k=>k=b) w (w.setCell ⟨b,j,none⟩ v):=AG.set;have hn:∀q cs fr,w.heap[q]?=some (.cells cs 46 fr)→¬(q=b):=fun q cs fr hh e=>h.nodes q cs fr hh (.inr e)
 exact⟨h.st.aside h.blk h.sd hk,by rw[Am h.blk,hy],by rw[he,he2];exact h.re.keep hk hn,by rw[hf,hf2];exact h.rf.keep hk hn,h.sd⟩
theorem ID.c6 (h:ID L W0 g lv i d l m pl K kv b x w):w.cell? ⟨b,6,none⟩=some (.int .i64 x.s.body):=by rw[Lib.cell_of_heap h.blk];rfl
theorem ID.c7 (h:ID L W0 g lv i d l m pl K kv b x w):w.cell? ⟨b,7,none⟩=some (.int .i64 x.s.els):=by rw[Lib.cell_of_heap h.blk];rfl
theorem ID.c0 (h:ID L W0 g lv i d l m pl K kv b x w):w.cell? ⟨b,0,none⟩=some (.int .i64 x.s.kind):=by rw[Lib.cell_of_heap h.blk];rfl
theorem ID.fz (h:ID L W0 g lv i d l m pl K kv b x w) (j:Nat):w.frozen? ⟨b,j,none⟩=false:=Lib.frozen_of_heap h.blk j
theorem ID.lt (h:ID L W0 g lv i d l m pl K kv b x w):b<w.heap.size:=(Array.getElem?_eq_some_iff.1 h.blk).1
theorem ID.keepg' (h:ID L W0 g lv i d l m pl K kv b x w) {w':World} {i' d' l' m':Nat} {pl':Int} (hs:Dm L W0 g lv i' d' l' m' pl' K kv w') (hk:AG (fun k=>k=g) w w'):ID L W0 g lv i' d' l' m' pl' K kv b x w':=
 h.go hs (hk.mono fun _ _ h=>.inl h) (Dq.refl _ _)
theorem ID.on (h:ID L W0 g lv i d l m pl K kv b x w) {w':World} (hb:Below w.heap.size w w'):ID L W0 g lv i d l m pl K kv b x w':=
 h.go (h.st.on hb) (AG.of hb) (Dq.refl _ _)
set_option maxRecDepth 100000 in
set_option maxHeartbeats 4000000 in
theorem Uu {row:CU} (hB:Gu L W0 g lv row) (h:ID L W0 g lv i (d+1) l m pl K kv b x w) (hl:l≤d) (hk:x.s.kind=12) (he:x.s.els=0) {r:RS (Bk×Bk)} (hr:P9 row L d l 12 i=some r):
  Calls Tryz.prog 291 #[.pointer (some ⟨g,0,none⟩),.pointer (some ⟨b,0,none⟩)] w (Jb L W0 g lv d l m K kv b x w r):=by
 have HX:=AA h;have HBL:=AA hB;have hgl:=h.st.lt;have hbl:=h.lt;have c3:=h.st.c3;have f3:=h.st.fz 3;have k0:=h.c0;rw[hk]at k0;have hdd:=h.st.dd;have hne:¬b=g:=h.sd.ne;have hne2:¬g=b:=fun e=>hne e.symm
 have hw1:IntKind.i64.wrap ((l:Int)+1)=(l:Int)+1:=IntWalk.i64_in _ (by omega);have HS1:Hid (Dm L W0 g lv i (d+1) (l+1) m pl K kv (w.setCell ⟨g,3,none⟩ (.int .i64 ((l+1:Nat):Int)))):=AA (h.st.set3 (by omega));have HK1:Hid (AG (fun k=>k=g) w (w.setCell ⟨g,3,none⟩ (.int .i64 ((l+1:Nat):Int)))):=AA AG.set;have HHK:=AA hk;have HEL:=AA he;unfold P9 at hr;rw[show Yn 12 l=l+1 from rfl]at hr;clear h hB hk he;rcases RS.obind_some hr with⟨t,j,h1,h2⟩|⟨er,p,h1,rfl⟩
 ·have h3:r=.ok (t,.nil) j:=by
   unfold Df at h2;rw[if_neg (by omega)]at h2;exact(Option.some.inj h2).symm
  subst h3;have HB1:=AA h1;clear hr h1 h2;go_enter Tryz.func291,Tryz.ntmps291;go_wp2_with fail
  rw[show((l:Int)+1)=((l+1:Nat):Int)from by omega];generalize hW1:w.setCell ⟨g,3,none⟩ (.int .i64 ((l+1:Nat):Int))=W1 at *;clear hW1 c3 f3 k0 hw1;refine(HBL.out i (d+1) (l+1) m pl K kv W1 _ HS1.out HB1.out).mono ?_;rintro e w2 ⟨rfl,⟨pl',K',kv',hs2,hm2,ho2⟩,hk2⟩;have HX2:Hid (ID L W0 g lv j (d+1) (l+1) (m+t.count) pl' (K++K') kv' b x w2):=AA ((HX.out.keepg' HS1.out HK1.out).go hs2 hk2 ho2);have HK2:=AA hk2;have HO2:=AA ho2;have HM2:=AA hm2;clear hs2 hk2 ho2 hm2;have hgl2:=HX2.out.st.lt;have hbl2:=HX2.out.lt;have d6:=HX2.out.c6;have e6:=HX2.out.fz 6;have d3:=HX2.out.st.c3;have g3:=HX2.out.st.fz 3
  have hw2:IntKind.i64.wrap (((l+1:Nat):Int)-1)=(l:Int):=by rw[IntWalk.i64_in _ (by omega)];omega
  go_wp2_with fail
  go_ret;have hX3:ID L W0 g lv j (d+1) (l+1) (m+t.count) pl' (K++K') kv' b ⟨{x.s with body:=t.count,els:=(Bk.nil.count:Nat)},x.vE,x.vF⟩ (w2.setCell ⟨b,6,none⟩ (.int .i64 (t.count:Nat))):=HX2.out.put (by simp[Be,Bk.count,HEL.out]) rfl rfl rfl rfl;have hX4:=hX3.keepg' (hX3.st.set3 (j:=l) (by omega)) AG.set;refine⟨rfl,⟨pl',K',kv',hX4,?_,(Dq.refl kv w).trans HO2.out HK1.out.size⟩,?_⟩
  ·rw[HM2.out];simp[Bk.flat]
  ·exact(HK1.out.trans HK2.out (R:=fun k=>Mine g kv k∨k=b) (fun _ _ h=>.inl (.inl h)) (fun _ _ h=>.inl h)).trans ((AG.set (g:=b) (j:=6)).trans (AG.set (g:=g) (j:=3)) (R:=fun k=>Mine g kv k∨k=b) (fun _ _ h=>.inr h) (fun _ _ h=>.inl (.inl h))) (fun _ _ h=>h) (fun _ _ h=>h)
 ·have HB1:=AA h1;clear hr h1;go_enter Tryz.func291,Tryz.ntmps291;go_wp2_with fail
  rw[show((l:Int)+1)=((l+1:Nat):Int)from by omega];generalize hW1:w.setCell ⟨g,3,none⟩ (.int .i64 ((l+1:Nat):Int))=W1 at *;clear hW1 c3 f3 k0 hw1;refine(HBL.out i (d+1) (l+1) m pl K kv W1 _ HS1.out HB1.out).mono ?_;rintro e w2 ⟨rfl,hne0,hba,hk2⟩;have HX1:Hid (ID L W0 g lv i (d+1) (l+1) m pl K kv b x W1):=AA (HX.out.keepg' HS1.out HK1.out);have hbk:w2.heap[b]?=some (.cells (Be x).toArray 44 (0,0)):=by rw[hk2.block b HX1.out.lt HX1.out.sd.not_mine];exact HX1.out.blk
  have HBA:=AA hba;have HK2:=AA hk2;obtain⟨z,d3,g3,hgl2⟩:=hba.cell3;have hbl2:=(Array.getElem?_eq_some_iff.1 hbk).1;have d6:w2.cell? ⟨b,6,none⟩=some (.int .i64 x.s.body):=by rw[Lib.cell_of_heap hbk];rfl
  have e6:w2.frozen? ⟨b,6,none⟩=false:=Lib.frozen_of_heap hbk 6;have HNE:=AA hne0;clear hba hk2 hbk hne0;obtain⟨z',hz'⟩:∃z':Int,IntKind.i64.wrap (z-1)=z':=⟨_,rfl⟩
  go_wp2_with fail
  go_ret;refine⟨rfl,HNE.out,(HBA.out.other hne).set3,?_⟩;exact(HK1.out.trans HK2.out (R:=fun k=>Mine g kv k∨k=b) (fun _ _ h=>.inl (.inl h)) (fun _ _ h=>.inl h)).trans ((AG.set (g:=b) (j:=6)).trans (AG.set (g:=g) (j:=3)) (R:=fun k=>Mine g kv k∨k=b) (fun _ _ h=>.inr h) (fun _ _ h=>.inl (.inl h))) (fun _ _ h=>h) (fun _ _ h=>h)
theorem RZ {K1 K2:List Sv} {l1 l2:List Stm} {n:Nat} (h1:K1.map (·.s)=l1.take n) (h2:K2.map (·.s)=l2.take (n-K1.length)):(K1++K2).map (·.s)=(l1++l2).take n:=by
 have hl:K1.length=min n l1.length:=by have:=congrArg List.length h1;simpa using this
 rw[List.map_append,h1,h2,List.take_append];congr 2;omega
set_option maxRecDepth 100000 in
set_option maxHeartbeats 4000000 in
theorem ZC {row:CU} (hs:Src L W0 lv) (hB:Gu L W0 g lv row) (h:ID L W0 g lv i (d+1) l m pl K kv b x w) (hk:x.s.kind=11) (he:x.s.els=0) {r:RS (Bk×Bk)} (hr:P9 row L d l 11 i=some r):
  Calls Tryz.prog 291 #[.pointer (some ⟨g,0,none⟩),.pointer (some ⟨b,0,none⟩)] w (Jb L W0 g lv d l m K kv b x w r):=by
 have HX:=AA h;have HC:=AA hs;have HBL:=AA hB;have hgl:=h.st.lt;have hbl:=h.lt;have k0:=h.c0;rw[hk]at k0;have hlen:=hs.len;have hne:¬b=g:=h.sd.ne;have hne2:¬g=b:=fun e=>hne e.symm
 have HEL:=AA he;unfold P9 at hr;rw[show Yn 11 l=l from rfl]at hr;clear h hB hs hk he;rcases RS.obind_some hr with⟨t,j,h1,h2⟩|⟨er,p,h1,rfl⟩;case inr=>
  have HB1:=AA h1;clear hr h1;go_enter Tryz.func291,Tryz.ntmps291;go_wp2_with fail
  refine(HBL.out i (d+1) l m pl K kv w _ HX.out.st HB1.out).mono ?_;rintro e w2 ⟨rfl,hne0,hba,hk2⟩;have hbk:w2.heap[b]?=some (.cells (Be x).toArray 44 (0,0)):=by rw[hk2.block b HX.out.lt HX.out.sd.not_mine];exact HX.out.blk
  have HBA:=AA hba;have HK2:=AA hk2;have hbl2:=(Array.getElem?_eq_some_iff.1 hbk).1;have d6:w2.cell? ⟨b,6,none⟩=some (.int .i64 x.s.body):=by rw[Lib.cell_of_heap hbk];rfl
  have e6:w2.frozen? ⟨b,6,none⟩=false:=Lib.frozen_of_heap hbk 6;have HNE:=AA hne0;have hz:(er==0)=false:=by simp[hne0]
  have hz2:(er != 0)=true:=by simp[hne0]
  clear hba hk2 hbk hne0;go_wp2_with fail
  go_quiet (fail)
  go_wp2_with fail
  go_ret;refine⟨rfl,HNE.out,QA9 (HBA.out.other hne) (AO _ _),?_⟩;exact(HK2.out.trans ((AG.set (g:=b) (j:=6))) (R:=fun k=>Mine g kv k∨k=b) (fun _ _ h=>.inl h) (fun _ _ h=>.inr h)).trans (AG.of (P:=fun _=>False) (AO _ _)) (fun _ _ h=>h) (fun _ _ h=>h.elim)
 case inl=>
 have HB1:=AA h1;clear hr h1;go_enter Tryz.func291,Tryz.ntmps291;go_wp2_with fail
 refine(HBL.out i (d+1) l m pl K kv w _ HX.out.st HB1.out).mono ?_;rintro e w2 ⟨rfl,⟨pl',K',kv',hs2,hm2,ho2⟩,hk2⟩;have HX2:Hid (ID L W0 g lv j (d+1) l (m+t.count) pl' (K++K') kv' b x w2):=AA (HX.out.go hs2 hk2 ho2);have HK2:=AA hk2;have HO2:=AA ho2;have HM2:=AA hm2;clear hs2 hk2 ho2 hm2;have HX3:Hid (ID L W0 g lv j (d+1) l (m+t.count) pl' (K++K') kv' b ⟨{x.s with body:=t.count},x.vE,x.vF⟩ (w2.setCell ⟨b,6,none⟩ (.int .i64 (t.count:Nat)))):=AA (HX2.out.put (by simp[Be]) rfl rfl rfl rfl)
 have HK3:Hid (AG (fun k=>Mine g kv k∨k=b) w (w2.setCell ⟨b,6,none⟩ (.int .i64 (t.count:Nat)))):=AA (HK2.out.trans (AG.set (g:=b) (j:=6)) (fun _ _ h=>.inl h) (fun _ _ h=>.inr h));have hbl2:=HX2.out.lt;have d6:=HX2.out.c6;have e6:=HX2.out.fz 6;clear hgl;have hgl2:=HX2.out.st.lt;go_upto_region 8 with(fail)
 generalize hW3:w2.setCell ⟨b,6,none⟩ (.int .i64 (t.count:Nat))=W3 at *;clear hW3 hbl2 d6 e6 hgl2 k0 hbl;have hgl:=HX3.out.st.lt;have c0:=HX3.out.st.c0;have c1:=HX3.out.st.c1;cases hq:isB L j FU with
 |false=>
  have h3:r=.ok (t,.nil) j:=by
   unfold Df at h2;rw[if_neg (by rw[hq];simp)]at h2;exact(Option.some.inj h2).symm
  subst h3;have HI:=AA hq;clear hq h2;go_region_held3 (fun w'=>w'.cell? ⟨g,0,none⟩=some lv∧w'.cell? ⟨g,1,none⟩=some (.int .i64 j)∧Below W3.heap.size W3 w')
   (first|exact⟨c0,c1,Below.refl _ _⟩|exact⟨c0,c1,AD _⟩|exact IA (w1:=W3.drew) hgl ⟨c0,c1,AD _⟩ hb3)
   (first|(go_at_call 77;refine(GI (s:=FU) HI.out lv _ ((HX3.out.st.on (AD _)).toks HC.out)).mono ?_;rintro e w3 ⟨rfl,hb3⟩))
  have HB3:=AA (AC (AD W3) hb3);clear hb3 c0 c1;go_wp2_with fail
  go_ret;refine⟨rfl,⟨pl',K',kv',?_,?_,HO2.out⟩,HK3.out.trans (AG.of (P:=fun _=>False) HB3.out) (fun _ _ h=>h) (fun _ _ h=>h.elim)⟩
  ·have:=HX3.out.on HB3.out;have e2:(⟨{x.s with body:=t.count,els:=(Bk.nil.count:Nat)},x.vE,x.vF⟩:Sv)=⟨{x.s with body:=t.count},x.vE,x.vF⟩:=by simp[Bk.count,HEL.out.symm]
   show ID L W0 g lv j (d+1) l (m+t.count) pl' (K++K') kv' b ⟨{x.s with body:=t.count,els:=(Bk.nil.count:Nat)},x.vE,x.vF⟩ _;rw[e2];exact this
  ·rw[HM2.out];simp[Bk.flat]
 |true=>
  have h3:RS.obind (Bz row L (j+1) (d+1) l) (fun u j=>some (.ok (t,u) j))=some r:=by
   unfold Df at h2;rw[if_pos ⟨rfl,hq⟩]at h2;exact h2
  have HI:=AA hq;have hjl:=Bt hq;clear hq h2;go_region_held3 (fun w'=>w'.cell? ⟨g,0,none⟩=some lv∧w'.cell? ⟨g,1,none⟩=some (.int .i64 j)∧Below W3.heap.size W3 w')
   (first|exact⟨c0,c1,Below.refl _ _⟩|exact⟨c0,c1,AD _⟩|exact IA (w1:=W3.drew) hgl ⟨c0,c1,AD _⟩ hb3)
   (first|(go_at_call 77;refine(GI (s:=FU) HI.out lv _ ((HX3.out.st.on (AD _)).toks HC.out)).mono ?_;rintro e w3 ⟨rfl,hb3⟩))
  have HB3:=AA (AC (AD W3) hb3);have HX4:=AA (HX3.out.on HB3.out);have HK4:Hid (AG (fun k=>Mine g kv k∨k=b) w w3):=AA (HK3.out.trans (AG.of (P:=fun _=>False) HB3.out) (fun _ _ h=>h) (fun _ _ h=>h.elim));clear hb3 c0 c1 hgl;have hgl:=HX4.out.st.lt;have c1:=HX4.out.st.c1;have f1:=HX4.out.st.fz 1;have hw1:IntKind.i64.wrap ((j:Int)+1)=(j:Int)+1:=IntWalk.i64_in _ (by omega);have hmj:=HX4.out.st.mi;have HS5:Hid (Dm L W0 g lv (j+1) (d+1) l (m+t.count) pl' (K++K') kv' (w3.setCell ⟨g,1,none⟩ (.int .i64 ((j+1:Nat):Int)))):=AA (HX4.out.st.set1 (by omega) (by omega))
  have HK5:Hid (AG (fun k=>k=g) w3 (w3.setCell ⟨g,1,none⟩ (.int .i64 ((j+1:Nat):Int)))):=AA AG.set;have HK6:Hid (AG (fun k=>Mine g kv k∨k=b) w (w3.setCell ⟨g,1,none⟩ (.int .i64 ((j+1:Nat):Int)))):=AA (HK4.out.trans HK5.out (fun _ _ h=>h) (fun _ _ h=>.inl (.inl h)));have HX5:=AA (HX4.out.keepg' HS5.out HK5.out);go_wp2_with fail
  rw[show((j:Int)+1)=((j+1:Nat):Int)from by omega];generalize hW5:w3.setCell ⟨g,1,none⟩ (.int .i64 ((j+1:Nat):Int))=W5 at *;clear hW5 c1 f1 hw1 hgl;rcases RS.obind_some h3 with⟨u,j2,g1,g2⟩|⟨er,p,g1,rfl⟩
  ·obtain rfl:RS.ok (t,u) j2=r:=Option.some.inj g2;have HB6:=AA g1;clear g1 g2 h3;refine(HBL.out (j+1) (d+1) l (m+t.count) pl' (K++K') kv' W5 _ HS5.out HB6.out).mono ?_;rintro e w6 ⟨rfl,⟨pl6,K6,kv6,hs6,hm6,ho6⟩,hk6⟩;have HX6:=AA (HX5.out.go hs6 hk6 ho6);have HK7:=AA hk6;have HO6:=AA ho6;have HM6:=AA hm6;clear hs6 hk6 ho6 hm6;have hgl6:=HX6.out.st.lt;have hbl6:=HX6.out.lt;have d7:=HX6.out.c7;have e7:=HX6.out.fz 7;go_wp2_with fail
   go_ret;have hX7:ID L W0 g lv j2 (d+1) l (m+t.count+u.count) pl6 (K++K'++K6) kv6 b ⟨{x.s with body:=t.count,els:=u.count},x.vE,x.vF⟩ (w6.setCell ⟨b,7,none⟩ (.int .i64 (u.count:Nat))):=HX6.out.put (by simp[Be]) rfl rfl rfl rfl;refine⟨rfl,⟨pl6,K'++K6,kv6,?_,?_,HO2.out.trans HO6.out ?_⟩,?_⟩
   ·rw[←List.append_assoc];exact hX7
   ·refine RZ HM2.out ?_;rw[HM6.out,List.length_append];congr 1;omega
   ·exact HK6.out.size
   ·refine(HK6.out.trans HK7.out (R:=fun k=>Mine g kv k∨k=b) (fun _ _ h=>h) (fun k hk h=>?_)).trans (AG.set (g:=b) (j:=7)) (fun _ _ h=>h) (fun _ _ h=>.inr h);exact .inl (Mine.onward HO2.out k hk h)
  ·have HB6:=AA g1;clear g1 h3;refine(HBL.out (j+1) (d+1) l (m+t.count) pl' (K++K') kv' W5 _ HS5.out HB6.out).mono ?_;rintro e w6 ⟨rfl,hne0,hba,hk6⟩;have hbk:w6.heap[b]?=some (.cells (Be ⟨{x.s with body:=t.count},x.vE,x.vF⟩).toArray 44 (0,0)):=by rw[hk6.block b HX5.out.lt HX5.out.sd.not_mine];exact HX5.out.blk
   have HBA:=AA hba;have HK7:=AA hk6;have hbl6:=(Array.getElem?_eq_some_iff.1 hbk).1;have d7:w6.cell? ⟨b,7,none⟩=some (.int .i64 x.s.els):=by rw[Lib.cell_of_heap hbk];rfl
   have e7:w6.frozen? ⟨b,7,none⟩=false:=Lib.frozen_of_heap hbk 7;have HNE:=AA hne0;clear hba hk6 hbk hne0;go_wp2_with fail
   go_ret;refine⟨rfl,HNE.out,HBA.out.other hne,?_⟩;refine(HK6.out.trans HK7.out (R:=fun k=>Mine g kv k∨k=b) (fun _ _ h=>h) (fun k hk h=>?_)).trans (AG.set (g:=b) (j:=7)) (fun _ _ h=>h) (fun _ _ h=>.inr h);exact .inl (Mine.onward HO2.out k hk h)
end
end Go.Proofs.YthfkpalfopdmhaaGreatDoor
