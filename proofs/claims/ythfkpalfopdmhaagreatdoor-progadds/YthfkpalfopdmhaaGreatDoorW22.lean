/- Texts of the walk, packed. -/
import Derived.Test.YthfkpalfopdmhaaGreatDoorW17
import Derived.Test.YthfkpalfopdmhaaGreatDoorW18
import Derived.Test.YthfkpalfopdmhaaGreatDoorW00
namespace Go.Proofs.YthfkpalfopdmhaaGreatDoor
open Go.RowKit
def Ha (g:Nat) (lv:Value) (pl:Int) (w:World):Prop:=∃(i:Value) (d l:Int) (m kv:Value),w.heap[g]?=some (.cells #[lv,i,.int .i64 d,.int .i64 l,m,kv,.int .i64 pl] 255 (0,0))
structure Hu (W0:World) (g:Nat) (kv:Value) (b:Nat):Prop where
 ne:b≠g
 own:kv.ownBlock≠some b
 low:W0.heap.size<=b
def Reads {α:Type} (r:RS α) (ok:α->Nat->World->Prop) (g:Nat) (lv:Value) (P:Nat->Prop) (w:World) (e:Ending) (w':World):Prop:=
 match r with
 |.ok a j=>e=.returned (.int .i64 0)/\ok a j w'/\AG P w w'
 |.bad er p=>e=.returned (.int .i64 er)/\Ha g lv p w'/\AG P w w'
section
variable {L:List Tok} {W0:World} {g:Nat} {lv:Value} {i d l m:Nat} {pl:Int} {K:List Sv} {kv:Value} {w:World}
theorem Dc.bad (h:Dc L W0 g lv i d l m pl K kv w):Ha g lv pl w:=⟨_,_,_,_,_,h.blk⟩
theorem YH.reads {α:Type} {r:RS α} {ok:α->Nat->World->Prop} {P:Nat->Prop} {er pl:Int} {w1:World} {e:Ending} {w2:World} (h:YH L W0 g lv i d l m K kv er pl w1 e w2) (hr:r=.bad er pl) (hk:AG P w w1) (hP:P g):Reads r ok g lv P w e w2:=by
 subst hr;obtain⟨h1,h2,h3⟩:=h;exact⟨h1,h2.bad,hk.trans h3 (fun _ _ h=>h) (fun k _ h=>by rw[h];exact hP)⟩
theorem Dc.aside (h:Dc L W0 g lv i d l m pl K kv w) {b:Nat} {cs:Array Value} (hb:w.heap[b]?=some (.cells cs 44 (0,0))) (ha:Hu W0 g kv b) {w':World} (hk:AG (fun k=>k=b) w w'):Dc L W0 g lv i d l m pl K kv w':=by
 have hg:=h.gB;obtain⟨a1,a2,a3⟩:=ha;refine⟨h.low.trans (hk.below (fun k hk e=>by omega) h.low.size),hg,by rw[hk.block g h.lt (fun e=>a1 e.symm)];exact h.blk,Ja h.row hk (fun q hq e=>a2 (by rw[hq,e])),fun x hx=>?_,h.len,h.il,h.mi,h.dd,h.ll⟩;obtain⟨h1,h2⟩:=h.rds x hx;have hn:∀q cs fr,w.heap[q]?=some (.cells cs 46 fr)->¬(q=b):=fun q cs fr hh e=>by rw[e,hb]at hh;simp at hh
 exact⟨h1.keep hk hn,h2.keep hk hn⟩
theorem QBw (h:DU L i=false):Bd L i=.bad (if i<L.length then 5 else 6) (AN L i):=by
 unfold DU at h;unfold Bd badR;cases hn:nameAt L i with
 |none=>rfl
 |some s=>rw[hn]at h;simp at h
theorem Zh (h:DU L i=true):∃t,L[i]?=some t/\i<L.length/\Bd L i=.ok t.text (i+1):=by
 unfold DU at h;cases hn:nameAt L i with
 |none=>rw[hn]at h;simp at h
 |some s=>
  have hl:=(JY hn).1;refine⟨L[i],List.getElem?_eq_getElem hl,hl,?_⟩;unfold Bd;rw[hn];unfold nameAt at hn;rw[List.getElem?_eq_getElem hl]at hn;simp only at hn;split at hn
  ·simp at hn;rw[hn]
  ·cases hn
theorem OR (h:Dc L W0 g lv i d l m pl K kv w) {b j:Nat} {cs:Array Value} (hb:w.heap[b]?=some (.cells cs 44 (0,0))) (ha:Hu W0 g kv b) {x:Value} {i':Nat} (hi:i'<=L.length) (hm:m<=i'):
  Dc L W0 g lv i' d l m pl K kv ((w.setCell ⟨b,j,none⟩ x).setCell ⟨g,1,none⟩ (.int .i64 i'))/\((w.setCell ⟨b,j,none⟩ x).setCell ⟨g,1,none⟩ (.int .i64 i')).heap[b]?=some (.cells (cs.setIfInBounds j x) 44 (0,0)):=
 ⟨(h.aside hb ha AG.set).set1 hi hm,by rw[Below.heap_setCell _ _ _ _ ha.ne];exact Af hb⟩
theorem QW {w1:World} {b j:Nat} {x y:Value} (h:Below w.heap.size w w1):AG (fun k=>k=g\/k=b) w ((w1.setCell ⟨b,j,none⟩ x).setCell ⟨g,1,none⟩ y).drew:=
 (AG.of (P:=fun k=>k=g\/k=b) h).trans (((AG.set (g:=b)).trans (AG.set (g:=g)) (R:=fun k=>k=g\/k=b) (fun _ _ h=>.inr h) (fun _ _ h=>.inl h)).trans (AG.of (P:=fun _=>False) (AD _)) (R:=fun k=>k=g\/k=b) (fun _ _ h=>h) (fun _ _ h=>h.elim)) (fun _ _ h=>h) (fun _ _ h=>h)
set_option maxRecDepth 100000 in
set_option maxHeartbeats 4000000 in
theorem QFb (hs:Src L W0 lv) (h:Dc L W0 g lv i d l m pl K kv w) {b j:Nat} {cs:Array Value} (hb:w.heap[b]?=some (.cells cs 44 (0,0))) (ha:Hu W0 g kv b) {old:Value} (hj:cs[j]?=some old):
  Calls Tryz.prog 288 #[.pointer (some ⟨g,0,none⟩),.pointer (some ⟨b,j,none⟩)] w (Reads (Bd L i) (fun s i' w'=>Dc L W0 g lv i' d l m pl K kv w'/\w'.heap[b]?=some (.cells (cs.setIfInBounds j (.string ⟨s.toArray⟩)) 44 (0,0))) g lv (fun k=>k=g\/k=b) w):=by
 have HS:=AA h;have HC:=AA hs;have HA:=AA ha;have HB:=AA hb;cases hn:DU L i with
 |false=>
  have HN:=AA hn;obtain⟨er,her⟩:∃er:Int,(if i<L.length then 5 else 6)=er:=⟨_,rfl⟩
  have HP:Hid (Bd L i=.bad er (AN L i)):=AA (by rw[QBw hn,her]);have HER:=AA her;clear h hs ha hb hj hn her;go_enter Tryz.func288,Tryz.ntmps288;go_wp2_with fail
  refine(Tm HC.out HS.out).mono ?_;rw[HN.out];rintro e w1 ⟨rfl,hb1⟩;have HS1:=AA (HS.out.on hb1);have HK1:=AA (AG.of (P:=fun k=>k=g\/k=b) hb1);clear hb1;go_wp2_with fail
  refine(OO HC.out HS1.out).mono ?_;rw[HER.out];intro e w2 hf;have HF:=AA (hf.reads (ok:=(fun s i' w'=>Dc L W0 g lv i' d l m pl K kv w'/\w'.heap[b]?=some (.cells (cs.setIfInBounds j (.string ⟨s.toArray⟩)) 44 (0,0)))) HP.out HK1.out (.inl rfl));obtain⟨rfl,_,_⟩:=hf;go_wp2_with fail
  go_ret;exact HF.out
 |true=>
  obtain⟨t,ht,hi,hp⟩:=Zh hn;have HN:=AA hn;have HP:=AA hp;have HT:=AA ht;have hl:=hs.len;clear h hs ha hb hn hp ht;go_enter Tryz.func288,Tryz.ntmps288;go_wp2_with fail
  refine(Tm HC.out HS.out).mono ?_;rw[HN.out];rintro e w1 ⟨rfl,hb1⟩;have HS1:=AA (HS.out.on hb1);have hlb:b<w.heap.size:=(Array.getElem?_eq_some_iff.1 HB.out).1;have hbk1:w1.heap[b]?=some (.cells cs 44 (0,0)):=by rw[hb1.block b hlb];exact HB.out
  have HB1:=AA hbk1;have HBE:=AA hb1;clear hb1;obtain⟨tb,tc,rfl,hc,htb,_,t0,t1,t2,t3⟩:=HS1.out.tok HC.out HT.out;have hgl:=HS1.out.lt;have c0:=HS1.out.c0;have c1:=HS1.out.c1;have f1:=HS1.out.fz 1;have cb:w1.cell? ⟨b,j,none⟩=some old:=by rw[Lib.cell_of_heap hbk1];exact hj
  have fb:w1.frozen? ⟨b,j,none⟩=false:=Lib.frozen_of_heap hbk1 j;have hne:¬b=g:=HA.out.ne;have hne2:¬g=b:=fun e=>HA.out.ne e.symm
  have hw1:IntKind.i64.wrap ((i:Int)+1)=(i:Int)+1:=IntWalk.i64_in _ (by omega);have hi0:(0:Int)<=(i:Int):=by omega
  have hi1:(i:Int)<(L.length:Int):=by omega
  clear hbk1 t0 t2 t3;go_wp2_with fail
  go_region
  go_wp2_with fail
  go_ret;rw[HP.out];obtain⟨q1,q2⟩:=OR (j:=j) (x:=.string ⟨t.text.toArray⟩) (i':=i+1) HS1.out HB1.out HA.out (by omega) (by have:=HS1.out.mi;omega);exact⟨rfl,⟨q1.on (AD _),q2⟩,QW HBE.out⟩
theorem NS (h:Dc L W0 g lv i d l m pl K kv w) {b:Nat} {cs:Array Value} (hb:w.heap[b]?=some (.cells cs 44 (0,0))):∀q cs fr,w.heap[q]?=some (.cells cs 46 fr)->¬(q=g\/q=b):=by
 rintro q cs' fr hh (e|e)
 ·exact h.mine_nodes q cs' fr hh (.inl e)
 ·rw[e,hb]at hh;simp at hh
theorem Zi (h:¬(EA L i).err=0):exprP L i=.bad (EA L i).err (EA L i).pl:=by unfold exprP;rw[if_neg h]
set_option maxRecDepth 100000 in
set_option maxHeartbeats 4000000 in
theorem QFc (hs:Src L W0 lv) (h:Dc L W0 g lv i d l m pl K kv w) {b j:Nat} {cs:Array Value} (hb:w.heap[b]?=some (.cells cs 44 (0,0))) (ha:Hu W0 g kv b) {old:Value} (hj:cs[j]?=some old):
  Calls Tryz.prog 289 #[.pointer (some ⟨g,0,none⟩),.pointer (some ⟨b,j,none⟩)] w (Reads (exprP L i) (fun s i' w'=>∃v,Dc L W0 g lv i' d l m pl K kv w'/\w'.heap[b]?=some (.cells (cs.setIfInBounds j v) 44 (0,0))/\B0 W0.heap.size w' v s) g lv (fun k=>k=g\/k=b) w):=by
 have HS:=AA h;have HC:=AA hs;have HA:=AA ha;have HB:=AA hb;have hgl:=h.lt;have c0:=h.c0;have c1:=h.c1;have hlen:=hs.len;clear h hs ha hb;by_cases he:(EA L i).err=0
 ·rcases MJ L i with⟨hx,_⟩|⟨x,_,_,_,_,q,hx,hx1,hx2⟩
  ·exact absurd he hx
  have HP:Hid (exprP L i=.ok x.flat q):=AA (by unfold exprP;rw[if_pos he,hx];simp);have HX:=AA hx;clear hx he;go_enter Tryz.func289,Tryz.ntmps289;go_wp2_with fail
  go_region_held3 (fun w'=>w'.cell? ⟨g,0,none⟩=some lv/\w'.cell? ⟨g,1,none⟩=some (.int .i64 i)/\Below w.heap.size w w')
   (first|exact⟨c0,c1,Below.refl _ _⟩|exact⟨c0,c1,AD _⟩|exact H6 (w1:=w.drew) hgl ⟨c0,c1,AD _⟩ hb1)
   (first|(go_at_call 185;refine(parse_any lv L i _ ((HS.out.on (AD _)).toks HC.out) ((HS.out.on (AD _)).tabs HC.out) HC.out.len HC.out.small).mono ?_;rw[HX.out];rintro e w1 ⟨v,rfl,ho,hb1⟩))
  obtain⟨A5,n5,c5,rfl⟩:=Eh ho;have HO:=AA ho;have HBE:=AA (AC (AD w) hb1);have HS1:=AA (HS.out.on HBE.out);have hlb:b<w.heap.size:=(Array.getElem?_eq_some_iff.1 HB.out).1;have hbk1:w1.heap[b]?=some (.cells cs 44 (0,0)):=by rw[HBE.out.block b hlb];exact HB.out
  have HB1:=AA hbk1;have cb:w1.cell? ⟨b,j,none⟩=some old:=by rw[Lib.cell_of_heap hbk1];exact hj
  have fb:w1.frozen? ⟨b,j,none⟩=false:=Lib.frozen_of_heap hbk1 j;have hgl1:=HS1.out.lt;have d1:=HS1.out.c1;have f1:=HS1.out.fz 1;have hne:¬b=g:=HA.out.ne;have hne2:¬g=b:=fun e=>HA.out.ne e.symm
  clear ho hb1 hbk1 c0 c1;go_wp2_with fail
  go_ret;rw[HP.out];obtain⟨q1,q2⟩:=OR (j:=j) (x:=.slice A5 n5 c5) (i':=q) HS1.out HB1.out HA.out (by omega) (by have:=HS1.out.mi;omega);have hE:B0 W0.heap.size w1 (.slice A5 n5 c5) x.flat:=HO.out.readE HS.out.low.size;have hK:=(AG.set (g:=b) (j:=j) (w:=w1) (v:=.slice A5 n5 c5)).trans (AG.set (g:=g) (j:=1) (v:=.int .i64 q)) (R:=fun k=>k=g\/k=b) (fun _ _ h=>.inr h) (fun _ _ h=>.inl h);exact⟨rfl,⟨_,q1,q2,hE.keep hK (NS HS1.out HB1.out)⟩,(AG.of (P:=fun k=>k=g\/k=b) HBE.out).trans hK (fun _ _ h=>h) (fun _ _ h=>h)⟩
 ·have HP:=AA (Zi he);go_enter Tryz.func289,Tryz.ntmps289;go_wp2_with fail
  go_region_held3 (fun w'=>w'.cell? ⟨g,0,none⟩=some lv/\w'.cell? ⟨g,1,none⟩=some (.int .i64 i)/\Below w.heap.size w w')
   (first|exact⟨c0,c1,Below.refl _ _⟩|exact⟨c0,c1,AD _⟩|exact H6 (w1:=w.drew) hgl ⟨c0,c1,AD _⟩ hb1)
   (first|(go_at_call 185;refine(parse_any lv L i _ ((HS.out.on (AD _)).toks HC.out) ((HS.out.on (AD _)).tabs HC.out) HC.out.len HC.out.small).mono ?_;rintro e w1 ⟨v,rfl,ho,hb1⟩))
  have HBE:=AA (AC (AD w) hb1);have HS1:=AA (HS.out.on HBE.out);have hgl1:=HS1.out.lt;have d6:=HS1.out.c6;have f6:=HS1.out.fz 6;generalize(EA L i).err=er at *;generalize(EA L i).pl=p6 at *;generalize(EA L i).tq=t6 at *;have hne:(er==0)=false:=by simp[he]
  clear ho hb1 c0 c1 he;go_wp2_with fail
  go_ret;rw[HP.out];exact⟨rfl,(HS1.out.set6 p6).bad,(AG.of (P:=fun k=>k=g\/k=b) HBE.out).trans AG.set (fun _ _ h=>h) (fun _ _ h=>.inl h)⟩
theorem Zj (h:¬i<L.length):EQ L i=.bad 6 (AN L i):=by
 unfold EQ badR;rw[List.getElem?_eq_none (by omega)];simp only[if_neg h]
theorem Wx {t:Tok} (ht:L[i]?=some t) (h:i<L.length) (hk:¬t.kind=2):EQ L i=.bad 5 (AN L i):=by
 unfold EQ badR;rw[ht];simp only[if_neg hk,if_pos h]
theorem Zk {t:Tok} (ht:L[i]?=some t) (h:i<L.length) (hk:t.kind=2) (hn:¬(1<=t.n/\t.n<=8)):EQ L i=.bad 11 (AN L i):=by
 unfold EQ badR;rw[ht];simp only[if_pos hk,if_neg hn,if_pos h]
theorem Zl {t:Tok} (ht:L[i]?=some t) (hk:t.kind=2) (hn:1<=t.n/\t.n<=8):EQ L i=.ok t.n (i+1):=by
 unfold EQ;rw[ht];simp only[if_pos hk,if_pos hn]
theorem QX {w1 w2:World} {a:Value} {x:Value} {b:Nat} (hg:g<w.heap.size) (hb0:b<w.heap.size) (k:w1.cell? ⟨g,0,none⟩=some a/\w1.cell? ⟨g,1,none⟩=some (.int .i64 i)/\w1.cell? ⟨b,i*4+2,none⟩=some x/\Below w.heap.size w w1) (hb:Below w1.heap.size w1 w2):w2.cell? ⟨g,0,none⟩=some a/\w2.cell? ⟨g,1,none⟩=some (.int .i64 i)/\w2.cell? ⟨b,i*4+2,none⟩=some x/\Below w.heap.size w w2:=by
 obtain⟨k0,k1,k2,kb⟩:=k;have q:∀e j,e<w.heap.size->w2.cell? ⟨e,j,none⟩=w1.cell? ⟨e,j,none⟩:=fun e j he=>hb.cell (p:=⟨e,j,none⟩) (Nat.lt_of_lt_of_le he kb.size)
 exact⟨by rw[q g _ hg,k0],by rw[q g _ hg,k1],by rw[q b _ hb0,k2],AC kb hb⟩
set_option maxRecDepth 100000 in
set_option maxHeartbeats 4000000 in
theorem QEE (hs:Src L W0 lv) (h:Dc L W0 g lv i d l m pl K kv w) {b j:Nat} {cs:Array Value} (hb:w.heap[b]?=some (.cells cs 44 (0,0))) (ha:Hu W0 g kv b) {old:Value} (hj:cs[j]?=some old):
  Calls Tryz.prog 290 #[.pointer (some ⟨g,0,none⟩),.pointer (some ⟨b,j,none⟩)] w (Reads (EQ L i) (fun n i' w'=>Dc L W0 g lv i' d l m pl K kv w'/\w'.heap[b]?=some (.cells (cs.setIfInBounds j (.int .i64 n)) 44 (0,0))) g lv (fun k=>k=g\/k=b) w):=by
 have HS:=AA h;have HC:=AA hs;have HA:=AA ha;have HB:=AA hb;have hgl:=h.lt;have c0:=h.c0;have c1:=h.c1;have hlen:=hs.len;by_cases hi:i<L.length;case neg=>
  have HD:Hid (decide (L.length<=i)=true):=AA (by simp;omega);have HER:Hid ((if i<L.length then(5:Int)else 6)=6):=AA (if_neg hi);have HP:=AA (Zj hi);clear h hs ha hb;go_enter Tryz.func290,Tryz.ntmps290;go_wp2_with fail
  go_quiet (first|(go_at_call 278;refine Calls.quiet_of (NP HC.out (HS.out.on (AM _ _)) HD.out)))
  have HS1:=AA (HS.out.on (AM _ nq));have HK1:=AA (AG.of (P:=fun k=>k=g\/k=b) (AM w nq));go_wp2_with fail
  refine(OO HC.out HS1.out).mono ?_;rw[HER.out];intro e w2 hf;have HF:=AA (hf.reads (ok:=(fun n i' w'=>Dc L W0 g lv i' d l m pl K kv w'/\w'.heap[b]?=some (.cells (cs.setIfInBounds j (.int .i64 n)) 44 (0,0)))) HP.out HK1.out (.inl rfl));obtain⟨rfl,_,_⟩:=hf;go_wp2_with fail
  go_ret;exact HF.out
 case pos=>
 obtain⟨t,ht⟩:∃t,L[i]?=some t:=⟨L[i],List.getElem?_eq_getElem hi⟩
 obtain⟨tb,tc,rfl,hc,hb0,_,t0,_,t2,_⟩:=h.tok hs ht;have HD:Hid (decide (L.length<=i)=false):=AA (by simp;omega);have hi0:(0:Int)<=(i:Int):=by omega
 have hi1:(i:Int)<(L.length:Int):=by omega
 have HT:=AA ht;by_cases hk:t.kind=2;case neg=>
  have HER:Hid ((if i<L.length then(5:Int)else 6)=5):=AA (if_pos hi);have HP:=AA (Wx ht hi hk);have hk1:(t.kind==2)=false:=by simp[hk]
  clear h hs ha hb ht hk;go_enter Tryz.func290,Tryz.ntmps290;go_wp2_with fail
  go_quiet (first|(go_at_call 278;refine Calls.quiet_of (NP HC.out (HS.out.on (AM _ _)) HD.out)))
  have HS1:=AA (HS.out.on (AM _ nq));have HK1:=AA (AG.of (P:=fun k=>k=g\/k=b) (AM w nq));go_wp2_with fail
  refine(OO HC.out HS1.out).mono ?_;rw[HER.out];intro e w2 hf;have HF:=AA (hf.reads (ok:=(fun n i' w'=>Dc L W0 g (.slice (some ⟨tb,0,none⟩) L.length tc) i' d l m pl K kv w'/\w'.heap[b]?=some (.cells (cs.setIfInBounds j (.int .i64 n)) 44 (0,0)))) HP.out HK1.out (.inl rfl));obtain⟨rfl,_,_⟩:=hf;go_wp2_with fail
  go_ret;exact HF.out
 case pos=>
 have HLO:Hid ((decide (1<=t.n)&&decide (t.n<=8))=decide (1<=t.n/\t.n<=8)):=AA (by rw[Bool.decide_and]);go_enter Tryz.func290,Tryz.ntmps290;go_wp2_with fail
 go_quiet (first|(go_at_call 278;refine Calls.quiet_of (NP HC.out (HS.out.on (AM _ _)) HD.out)))
 have HB1:=AA (AM w nq);go_wp2_with fail
 generalize hW:w.drewN nq=W at *;have HS1:=AA (HS.out.on HB1.out);have hlb:b<w.heap.size:=(Array.getElem?_eq_some_iff.1 HB.out).1;have HBW:Hid (W.heap[b]?=some (.cells cs 44 (0,0))):=AA (by rw[HB1.out.block b hlb];exact HB.out);clear hW t0 t2 c0 c1 hgl hb0 h ha hb;have hgl:=HS1.out.lt;have c0:=HS1.out.c0;have c1:=HS1.out.c1;obtain⟨tb',tc',hlv,_,hb0,_,_,_,t2,_⟩:=HS1.out.tok HC.out HT.out;simp only[Value.slice.injEq,Option.some.injEq,Addr.mk.injEq]at hlv;obtain⟨⟨rfl,_⟩,_,rfl⟩:=hlv;by_cases hn:1<=t.n/\t.n<=8;case neg=>
  have HP:=AA (Zk ht hi hk hn);have HQ:Hid ((decide (1<=t.n)&&decide (t.n<=8))=false):=AA (by rw[HLO.out];simpa using hn);clear hn hs;go_region_held3 (fun w'=>w'.cell? ⟨g,0,none⟩=some (.slice (some ⟨tb,0,none⟩) L.length tc)/\w'.cell? ⟨g,1,none⟩=some (.int .i64 i)/\w'.cell? ⟨tb,i*4+2,none⟩=some (.int .i64 t.n)/\Below W.heap.size W w')
   (first|exact⟨c0,c1,t2,Below.refl _ _⟩|exact⟨c0,c1,t2,AD _⟩|exact QX (w1:=W.drew) hgl hb0 ⟨c0,c1,t2,AD _⟩ hb1)
   (first|(go_at_call 248;refine(MK t.n _).mono ?_;rw[HQ.out];rintro e w1 ⟨rfl,hb1⟩))
  have HB2:=AA (AC HB1.out (AC (AD W) hb1));have HS2:=AA (HS.out.on HB2.out);have HK1:=AA (AG.of (P:=fun k=>k=g\/k=b) HB2.out);clear hb1;go_wp2_with fail
  refine(YI HC.out HS2.out 11).mono ?_;intro e w2 hf;have HF:=AA (hf.reads (ok:=(fun n i' w'=>Dc L W0 g (.slice (some ⟨tb,0,none⟩) L.length tc) i' d l m pl K kv w'/\w'.heap[b]?=some (.cells (cs.setIfInBounds j (.int .i64 n)) 44 (0,0)))) HP.out HK1.out (.inl rfl));obtain⟨rfl,_,_⟩:=hf;go_wp2_with fail
  go_ret;exact HF.out
 case pos=>
 have HP:=AA (Zl ht hk hn);have HQ:Hid ((decide (1<=t.n)&&decide (t.n<=8))=true):=AA (by rw[HLO.out];simpa using hn);clear hn hs ht;go_region_held3 (fun w'=>w'.cell? ⟨g,0,none⟩=some (.slice (some ⟨tb,0,none⟩) L.length tc)/\w'.cell? ⟨g,1,none⟩=some (.int .i64 i)/\w'.cell? ⟨tb,i*4+2,none⟩=some (.int .i64 t.n)/\Below W.heap.size W w')
  (first|exact⟨c0,c1,t2,Below.refl _ _⟩|exact⟨c0,c1,t2,AD _⟩|exact QX (w1:=W.drew) hgl hb0 ⟨c0,c1,t2,AD _⟩ hb1)
  (first|(go_at_call 248;refine(MK t.n _).mono ?_;rw[HQ.out];rintro e w1 ⟨rfl,hb1⟩))
 have HB2:=AA (AC HB1.out (AC (AD W) hb1));have HS2:=AA (HS.out.on HB2.out);have hbk1:w1.heap[b]?=some (.cells cs 44 (0,0)):=by rw[HB2.out.block b hlb];exact HB.out
 have HB3:=AA hbk1;clear hb1 c0 c1 t2 hgl hb0;obtain⟨tb',tc',hlv,_,hb0,_,_,_,t2,_⟩:=HS2.out.tok HC.out HT.out;simp only[Value.slice.injEq,Option.some.injEq,Addr.mk.injEq]at hlv;obtain⟨⟨rfl,_⟩,_,rfl⟩:=hlv;have hgl:=HS2.out.lt;have c0:=HS2.out.c0;have c1:=HS2.out.c1;have f1:=HS2.out.fz 1;have cb:w1.cell? ⟨b,j,none⟩=some old:=by rw[Lib.cell_of_heap hbk1];exact hj
 have fb:w1.frozen? ⟨b,j,none⟩=false:=Lib.frozen_of_heap hbk1 j;have hne:¬b=g:=HA.out.ne;have hne2:¬g=b:=fun e=>HA.out.ne e.symm
 have hw1:IntKind.i64.wrap ((i:Int)+1)=(i:Int)+1:=IntWalk.i64_in _ (by omega);clear hbk1;go_wp2_with fail
 go_region
 go_wp2_with fail
 go_ret;rw[HP.out];obtain⟨q1,q2⟩:=OR (j:=j) (x:=.int .i64 t.n) (i':=i+1) HS2.out HB3.out HA.out (by omega) (by have:=HS2.out.mi;omega);exact⟨rfl,⟨q1.on (AD _),q2⟩,QW HB2.out⟩
end
end Go.Proofs.YthfkpalfopdmhaaGreatDoor
