/- Texts of the walk, packed. -/
import Derived.Test.YthfkpalfopdmhaaGreatDoorX35
import Derived.Deep.RegionLaw
import Derived.Test.YthfkpalfopdmhaaGreatDoorX00
namespace Go.Proofs.YthfkpalfopdmhaaGreatDoor
open Go.RowKit
section
variable {M:List Tok} {B g i N:Nat} {lv:Value} {p:Pv} {w:World}
theorem Td {T m n:Nat} {v:Value} {xs:List Value} {o:Obj} (h:w.ownsRow N T m v n xs):(w.drew.alloc o).ownsRow N T m v n xs:=AW (P:=fun _=>False) h (AG.of ((AD w).alloc (Nat.le_refl _) o)) (fun _ _ h=>h)
theorem Xt {s:ByteArray} {A A':Option Addr} {n c n' c':Nat} {pl:Int}:∀u∈[Value.string s,.slice A n c,.slice A' n' c',.int .i64 pl],u.oneCell'=true:=by
 intro u hu;simp at hu;rcases hu with rfl|rfl|rfl|rfl<;>rfl
theorem DY.keepR {P:Nat→Prop} {w':World} {v:Value} {K:List Tv} (h:DY w N v K) (hk:AG P w w') (hr:∀q,v.ownBlock=some q→¬P q) (ha:Av P w N [9,44,46]):DY w' N v K:=
 ⟨AW h.row hk hr,fun x hx=>⟨(h.sub x hx).1.keepT hk (ha.sub (by simp)),(h.sub x hx).2.keepT hk (ha.sub (by simp))⟩⟩
theorem QX.any {X:World} {b:Nat} {name:List UInt8} {pl:Int} {r:RS Thr} {e:Ending} (h:QX M B g b lv p name pl r w e X):∃(er:Int) (i2 q2:Int) (s:ByteArray) (AR:Option Addr) (nR cR:Nat) (AB:Option Addr) (nB cB:Nat) (pl':Int),e=.returned (.int .i64 er)∧Bl X g lv i2 p q2∧X.heap[b]?=some (.cells #[.string s,.slice AR nR cR,.slice AB nB cB,.int .i64 pl'] 41 (0,0)):=by
 obtain⟨_,h2⟩:=h;cases r with
 |ok t m=>
  obtain⟨rfl,M',vR,vB,_,_,hs,hb,hR,hB⟩:=h2;obtain⟨AR,cR,rfl,_⟩:=hR.reads;obtain⟨AB,cB,rfl⟩:=hB.slice;obtain⟨q,hq⟩:=hs.blk;exact⟨0,_,q,_,_,_,_,_,_,_,_,rfl,hq,hb⟩
 |bad er q=>
  obtain⟨rfl,_,⟨i2,hb⟩,A,n,c,hx⟩:=h2;exact⟨er,i2,q,_,_,_,_,_,_,_,_,rfl,hb,hx⟩
theorem QBg {X w5:World} {i2 q2:Int} {K:List Tv} {s:ByteArray} {vR vB v5:Value} {pl:Int} {o:Obj} (hX:AG (KO g lv N) w X) (hb:Bl X g lv i2 p q2) (hgN:g<N) (hK:DY X N p.d K)
  (hgrow:(X.drew.alloc o).grownBy w5 p.d.ownBlock) (hown:w5.ownsRow N 41 4 v5 (K.length+1) (K.flatMap EQ++[.string s,vR,vB,.int .i64 pl])):
  AG (KO g lv N) w (w5.setCell ⟨g,5,none⟩ v5)∧Bl (w5.setCell ⟨g,5,none⟩ v5) g lv i2 {p with d:=v5} q2∧(∀M' m,S5 M' B g lv m p X→S5 M' B g lv m {p with d:=v5} (w5.setCell ⟨g,5,none⟩ v5))∧
   (∀t:Thr,s=⟨t.name.toArray⟩→pl=t.pl→C9 X N vR t.regs→Fh X N vB t.body→FT (w5.setCell ⟨g,5,none⟩ v5) N v5 (K.map (·.t)++[t])):=by
 have hB1:Below X.heap.size X (X.drew.alloc o):=(AD X).alloc (Nat.le_refl _) o;have hk1:AG (fun q=>p.d.ownBlock=some q) X w5:=ES hB1 (AG.grown hgrow);have hng:¬p.d.ownBlock=some g:=fun e=>by have:=(AM hK.row g e).1;omega
 have hks:AG (fun q=>q=g) w5 (w5.setCell ⟨g,5,none⟩ v5):=AG.set;have hb5:Bl w5 g lv i2 p q2:=Ep hb hk1 hng;have hbk:Bl (w5.setCell ⟨g,5,none⟩ v5) g lv i2 {p with d:=v5} q2:=Am hb5;have hty:∀q,p.d.ownBlock=some q→N≤q∧∃cs,X.heap[q]?=some (.cells cs 41 (0,0)):=AM hK.row;have hkk:AG (fun q=>q=g∨p.d.ownBlock=some q) X (w5.setCell ⟨g,5,none⟩ v5):=hk1.trans hks (fun _ _ h=>.inr h) (fun _ _ h=>.inl h);have hav:∀Ts:List TypeId,58∉Ts→41∉Ts→Av (fun q=>q=g∨p.d.ownBlock=some q) X N Ts:=fun Ts h1 h2 q cs T hB hh hT=>by
  rintro(e|e)
  ·omega
  ·obtain⟨_,cs1,h5⟩:=hty q e;rw[h5]at hh;simp only[Option.some.injEq,Obj.cells.injEq]at hh;exact h2 (hh.2.1▸hT)
 refine⟨Ak (hX.trans hk1 (fun _ _ h=>h) (fun k _ e=>.inr (.inr (hty k e).1))) (Cc hks),hbk,fun M' m hs=>?_,fun t hs hp hr hbd=>?_⟩
 ·have hi2:i2=m:=by
   obtain⟨q3,hq3⟩:=hs.blk;unfold Bl at hb hq3;rw[hb]at hq3;simp at hq3;exact hq3.1
  subst hi2;exact(hs.far hk1 hng (fun q hq e=>by
   obtain⟨_,cs1,h5⟩:=hty q e;obtain⟨_,cs2,h6⟩:=AM hs.toks q hq;rw[h5]at h6;simp at h6) (fun q hq e=>by have:=(hty q e).1;have:=hs.gB;omega)).put hks hbk hs.il
 ·subst hs hp;refine⟨K++[⟨t,vR,vB⟩],⟨?_,fun x hx=>?_⟩,by rw[List.map_append];rfl⟩
  ·rw[List.length_append,List.flatMap_append];have h6:w5.ownsRow N 41 4 v5 (K.length+1) (K.flatMap EQ++[⟨t,vR,vB⟩].flatMap EQ):=hown;exact AW h6 hks (fun q hq e=>by have:=(AM h6 q hq).1;omega)
  ·rcases List.mem_append.1 hx with hx|hx
   ·exact⟨(hK.sub x hx).1.keepT hkk (hav _ (by decide) (by decide)),(hK.sub x hx).2.keepT hkk (hav _ (by decide) (by decide))⟩
   ·obtain rfl:x=⟨t,vR,vB⟩:=by simpa using hx
    exact⟨hr.keepT hkk (hav _ (by decide) (by decide)),hbd.keepT hkk (hav _ (by decide) (by decide))⟩
theorem QBh {X w5:World} {i2 q2:Int} {K:List Tv} {s:ByteArray} {vR vB v5:Value} {pl:Int} {o:Obj} (hX:AG (KO g lv N) w X) (hb:Bl X g lv i2 p q2) (hgN:g<N) (hK:DY X N p.e K)
  (hgrow:(X.drew.alloc o).grownBy w5 p.e.ownBlock) (hown:w5.ownsRow N 41 4 v5 (K.length+1) (K.flatMap EQ++[.string s,vR,vB,.int .i64 pl])):
  AG (KO g lv N) w (w5.setCell ⟨g,6,none⟩ v5)∧Bl (w5.setCell ⟨g,6,none⟩ v5) g lv i2 {p with e:=v5} q2∧(∀M' m,S5 M' B g lv m p X→S5 M' B g lv m {p with e:=v5} (w5.setCell ⟨g,6,none⟩ v5))∧
   (∀t:Thr,s=⟨t.name.toArray⟩→pl=t.pl→C9 X N vR t.regs→Fh X N vB t.body→FT (w5.setCell ⟨g,6,none⟩ v5) N v5 (K.map (·.t)++[t])):=by
 have hB1:Below X.heap.size X (X.drew.alloc o):=(AD X).alloc (Nat.le_refl _) o;have hk1:AG (fun q=>p.e.ownBlock=some q) X w5:=ES hB1 (AG.grown hgrow);have hng:¬p.e.ownBlock=some g:=fun e=>by have:=(AM hK.row g e).1;omega
 have hks:AG (fun q=>q=g) w5 (w5.setCell ⟨g,6,none⟩ v5):=AG.set;have hb5:Bl w5 g lv i2 p q2:=Ep hb hk1 hng;have hbk:Bl (w5.setCell ⟨g,6,none⟩ v5) g lv i2 {p with e:=v5} q2:=Am hb5;have hty:∀q,p.e.ownBlock=some q→N≤q∧∃cs,X.heap[q]?=some (.cells cs 41 (0,0)):=AM hK.row;have hkk:AG (fun q=>q=g∨p.e.ownBlock=some q) X (w5.setCell ⟨g,6,none⟩ v5):=hk1.trans hks (fun _ _ h=>.inr h) (fun _ _ h=>.inl h);have hav:∀Ts:List TypeId,58∉Ts→41∉Ts→Av (fun q=>q=g∨p.e.ownBlock=some q) X N Ts:=fun Ts h1 h2 q cs T hB hh hT=>by
  rintro(e|e)
  ·omega
  ·obtain⟨_,cs1,h5⟩:=hty q e;rw[h5]at hh;simp only[Option.some.injEq,Obj.cells.injEq]at hh;exact h2 (hh.2.1▸hT)
 refine⟨Ak (hX.trans hk1 (fun _ _ h=>h) (fun k _ e=>.inr (.inr (hty k e).1))) (Cc hks),hbk,fun M' m hs=>?_,fun t hs hp hr hbd=>?_⟩
 ·have hi2:i2=m:=by
   obtain⟨q3,hq3⟩:=hs.blk;unfold Bl at hb hq3;rw[hb]at hq3;simp at hq3;exact hq3.1
  subst hi2;exact(hs.far hk1 hng (fun q hq e=>by
   obtain⟨_,cs1,h5⟩:=hty q e;obtain⟨_,cs2,h6⟩:=AM hs.toks q hq;rw[h5]at h6;simp at h6) (fun q hq e=>by have:=(hty q e).1;have:=hs.gB;omega)).put hks hbk hs.il
 ·subst hs hp;refine⟨K++[⟨t,vR,vB⟩],⟨?_,fun x hx=>?_⟩,by rw[List.map_append];rfl⟩
  ·rw[List.length_append,List.flatMap_append];have h6:w5.ownsRow N 41 4 v5 (K.length+1) (K.flatMap EQ++[⟨t,vR,vB⟩].flatMap EQ):=hown;exact AW h6 hks (fun q hq e=>by have:=(AM h6 q hq).1;omega)
  ·rcases List.mem_append.1 hx with hx|hx
   ·exact⟨(hK.sub x hx).1.keepT hkk (hav _ (by decide) (by decide)),(hK.sub x hx).2.keepT hkk (hav _ (by decide) (by decide))⟩
   ·obtain rfl:x=⟨t,vR,vB⟩:=by simpa using hx
    exact⟨hr.keepT hkk (hav _ (by decide) (by decide)),hbd.keepT hkk (hav _ (by decide) (by decide))⟩
set_option maxRecDepth 100000 in
set_option maxHeartbeats 16000000 in
theorem Xu (h:S5 M B g lv i p w) (hwd:CJ M) (hgN:g<N) (hlN:∀q,lv.ownBlock=some q→q<N) (hNw:N≤w.heap.size) {ts:List Thr} (ho:FT w N p.d ts) (hls:ts.length≤10000) (hi:i<M.length) {F:Nat} {r:RS Thr} (hr:DT M F i=some r):
  Calls Tryz.prog 137 #[.pointer (some ⟨g,0,none⟩)] w (Gf g lv N r (fun t j w'=>∃v' M',Ea M M' j∧CJ M'∧S5 M' B g lv j {p with d:=v'} w'∧FT w' N v' (ts++[t])) w):=by
 obtain⟨i0,hi0,hz0,hz1,hz2⟩:=info_parts Xs;have HZ:=AA (show Tryz.prog.info? 41=some i0∧i0.zero=some (.agg #[.string ⟨#[]⟩,.slice none 0 0,.slice none 0 0,.int .i64 0])∧i0.size=4∧i0.bytes=72 from⟨hi0,hz0,hz1,hz2⟩);obtain⟨K,hK,hmap⟩:=ho;have HKO:=AA hK;have HMP:=AA hmap;have HKL:Hid (K.length≤10000):=AA (by rw[←hmap,List.length_map]at hls;exact hls);have HH:=AA h;have HW:=AA hwd;have HGN:=AA hgN;have HLN:=AA hlN;have HNW:=AA hNw;have HR:=AA hr;obtain⟨q0,hb0⟩:=h.blk;obtain⟨hgl, -,c1, -, -, -, -, -, -, -,fz⟩:=hb0.cells;have f1:=fz 1;have hlen:=h.len
 have hw1:IntKind.i64.wrap ((i:Int)+1)=(i:Int)+1:=IntWalk.i64_in _ (by omega);have HI:=AA hi;clear hi0 hz0 hz1 hz2 hK hmap h hwd hls hgN hlN hNw hr hb0 fz hi;go_enter Tryz.func137,Tryz.ntmps137;go_wp2_with fail
 have HS1:Hid (S5 M B g lv (i+1) p (w.setCell ⟨g,1,none⟩ (.int .i64 ((i:Int)+1)))):=AA (HH.out.set1 (by have:=HI.out;omega));have HK1:Hid (AG (fun q=>q=g) w (w.setCell ⟨g,1,none⟩ (.int .i64 ((i:Int)+1)))):=AA AG.set;generalize w.setCell ⟨g,1,none⟩ (.int .i64 ((i:Int)+1))=w1 at *;clear c1 f1 hw1 hgl;have HPL:=AA (QP HS1.out);obtain⟨pl,hpl⟩:∃pl,AT M ((i+1:Nat):Int)=pl:=⟨_,rfl⟩
 rw[hpl]at HPL;have HPE:=AA hpl;clear hpl;refine HPL.out.mono ?_;rintro e w2 ⟨rfl,hb2⟩;have HS2:=AA (HS1.out.on hb2);have HK2:=AA (Ab HK1.out hb2);clear hb2;go_wp2_with fail
 obtain⟨b,hbz⟩:∃b,w2.heap.size=b:=⟨_,rfl⟩
 have hX1:=heap_alloc_new w2 (.cells #[.string ⟨#[]⟩,.slice none 0 0,.slice none 0 0,.int .i64 pl] 41);have hBX:Below w2.heap.size w2 (w2.alloc (.cells #[.string ⟨#[]⟩,.slice none 0 0,.slice none 0 0,.int .i64 pl] 41)):=(Below.refl _ _).alloc (Nat.le_refl _) _;generalize w2.alloc (.cells #[.string ⟨#[]⟩,.slice none 0 0,.slice none 0 0,.int .i64 pl] 41)=w3 at *;rw[hbz]at hX1⊢;have HBW:Hid (w.heap.size≤b):=AA (by have:=HK2.out.size;omega);have HX1:Hid (IK w3 b [] (.slice none 0 0) (.slice none 0 0) pl):=AA hX1;have HS3:=AA (HS2.out.on hBX);have HK3:=AA (Ab HK2.out hBX)
 have HB8:Hid (8<b):=AA (by have:=HS2.out.tabs.lt2;omega);have hbl3:=(Array.getElem?_eq_some_iff.1 hX1).1;clear hX1 hBX hbz;refine(name5 HS3.out HW.out).mono ?_;intro e w4 hp;obtain⟨hk4,hp⟩:=hp;have HAP:=AA (OF HS3.out HX1.out HB8.out);have HX4:=AA (DD HX1.out hk4 HAP.out.bg);have HK4:=AA (Ak HK3.out hk4);unfold DT at HR;cases hn:BW M (i+1)with
 |bad er q=>
  rw[hn]at hp;obtain⟨rfl,hne,i4,hb4⟩:=hp;have hne2:(er != 0)=true:=by simp[hne]
  have HNE:=AA hne;have HB4:=AA hb4;have HRR:Hid (r=.bad er q):=AA (by have h1:=HR.out;rw[hn]at h1;simpa using h1.symm);clear hn hk4 hne hb4;go_wp2_with fail
  go_ret;rw[HRR.out];exact⟨Cc HK4.out,rfl,HNE.out,i4,p,HB4.out⟩
 |ok nm j=>
  rw[hn]at hp;obtain⟨rfl,hs4⟩:=hp;have hne0:((0:Int) != 0)=false:=by decide
  have HR1:Hid (IJ M F j nm pl=some r):=AA (by have h1:=HR.out;rw[hn]at h1;rw[←HPE.out];simpa using h1);have xb0:w4.cell? ⟨b,0,none⟩=some (.string ⟨#[]⟩):=by rw[Lib.cell_of_heap (show w4.heap[b]?=_ from HX4.out)];rfl
  have fb0:w4.frozen? ⟨b,0,none⟩=false:=Lib.frozen_of_heap (show w4.heap[b]?=_ from HX4.out) 0;have hkb:AG (fun q=>q=b) w4 (w4.setCell ⟨b,0,none⟩ (.string ⟨nm.toArray⟩)):=AG.set;have HX5:Hid (IK (w4.setCell ⟨b,0,none⟩ (.string ⟨nm.toArray⟩)) b nm (.slice none 0 0) (.slice none 0 0) pl):=AA (Am (show w4.heap[b]?=_ from HX4.out));have HS5:=AA (hs4.offb (OF hs4 HX4.out HB8.out) hkb);have HK5:=AA (Fp HK4.out hkb HBW.out);clear hn hk4 hs4 hkb;go_wp2_with fail
  generalize w4.setCell ⟨b,0,none⟩ (.string ⟨nm.toArray⟩)=w5 at *;refine(QBe HS5.out HW.out HX5.out HB8.out HR1.out).mono ?_;intro e X hp;have HWN:Hid (N≤w5.heap.size):=AA (by have:=HNW.out;have:=HK5.out.size;omega);have HPX:=AA hp;have HTX:Hid (AG (KO g lv N) w X):=AA ((Cc HK5.out).trans hp.1 (fun _ _ h=>h) (fun k hk e=>e.elim .inl (fun e=>e.elim (fun e=>by have:=HBW.out;omega) (fun e=>.inr (.inl e)))));obtain⟨er,i2,q2,s,AR,nR,cR,AB,nB,cB,pl',rfl,hbx2,hxb2⟩:=hp.any;have HBX:=AA hbx2;have HXB:=AA hxb2;obtain⟨hgX, -, -, -, -, -,k5,k6, -, -,fzX⟩:=hbx2.cells;have c5:=k5;have f5:=fzX 5
  have z0:X.cell? ⟨b,0,none⟩=some (.string s):=by rw[Lib.cell_of_heap hxb2];rfl
  have z1:X.cell? ⟨b,1,none⟩=some (.slice AR nR cR):=by rw[Lib.cell_of_heap hxb2];rfl
  have z2:X.cell? ⟨b,2,none⟩=some (.slice AB nB cB):=by rw[Lib.cell_of_heap hxb2];rfl
  have z3:X.cell? ⟨b,3,none⟩=some (.int .i64 pl'):=by rw[Lib.cell_of_heap hxb2];rfl
  have HKX:Hid (DY X N p.d K):=AA ((HKO.out.keepT HK5.out (fun q cs T hB hh hT e=>by have:=HGN.out;omega)).keepR hp.1 (fun q hq e=>by
   have hqw:q<w.heap.size:=(Array.getElem?_eq_some_iff.1 (AM HKO.out.row q hq).2.choose_spec).1;have hqN:=(AM HKO.out.row q hq).1;rcases e with e|e|e
   ·have:=HGN.out;omega
   ·have:=HBW.out;omega
   ·have:=HLN.out q e;omega) (fun q cs T hB hh hT e=>by
   rcases e with e|e|e
   ·have:=HGN.out;omega
   ·rw[e,show w5.heap[b]?=_ from HX5.out]at hh;simp only[Option.some.injEq,Obj.cells.injEq]at hh;rw[←hh.2.1]at hT;simp at hT
   ·have:=HLN.out q e;omega))
  have HNO:Hid (∀q,p.d.ownBlock=some q→q≠g):=AA (fun q hq e=>by have:=(AM HKX.out.row q hq).1;have:=HGN.out;omega);have HNX:Hid (N≤X.heap.size):=AA (by have:=HNW.out;have:=HTX.out.size;omega);clear hp hbx2 hxb2 fzX k5 k6;go_wp2_with fail
  go_region_law (refine step_append_lies _ rfl (.tmp 33) (.tmp 35) 24 rfl N 41 i0 (.agg #[.string ⟨#[]⟩,.slice none 0 0,.slice none 0 0,.int .i64 0]) 4 72 Tryz.underlying24 HZ.out.1 HZ.out.2.1 HZ.out.2.2.1 HZ.out.2.2.2 rfl (by decide) p.d K.length (K.flatMap EQ) (by rfl) (Td HKX.out.row) ⟨X.heap.size,0,none⟩ 1 1 [.string s,.slice AR nR cR,.slice AB nB cB,.int .i64 pl'] (by rfl) (by rfl) (World.news_of_block (cs:=#[.string s,.slice AR nR cR,.slice AB nB cB,.int .i64 pl']) (TJ X _)) Xt (by decide) (by have:=HKL.out;unfold maxLen;omega) (by have:=HKL.out;omega) (NJ HNX.out) (X.heap.size+1) (by simp) ?_;intro g5 cap w5 hown5 hgrow5 hat5 hlt5;obtain⟨d5,e5⟩:=cell_grown hgrow5 HNO.out hgX c5 f5;have hg5:g<w5.heap.size:=Nat.lt_of_lt_of_le hgX (Nat.le_trans (by simp) hgrow5.size))
  all_goals
   have HFIN:=AA (QBg (B:=B) HTX.out HBX.out HGN.out HKX.out hgrow5 hown5);clear hown5 hgrow5 hat5;go_wp2_with fail
   go_ret;obtain⟨f1,f2,f3,f4⟩:=HFIN.out;refine⟨f1,?_⟩;have h2:=HPX.out.2;cases r with
   |bad e2 q=>
    obtain⟨he,hne,⟨i3,hb3⟩,A,n,c,hx⟩:=h2;simp only[Ending.returned.injEq,Value.int.injEq,true_and]at he;subst he;have hq:q2=q:=by
     have h3:=HBX.out;unfold Bl at h3 hb3;rw[h3]at hb3;simp at hb3;exact hb3.2
    subst hq;exact⟨rfl,hne,i2,_,f2⟩
   |ok t m=>
    obtain⟨he,M',vR,vB,hag,hwd',hs',hb',hR',hB'⟩:=h2;simp only[Ending.returned.injEq,Value.int.injEq,true_and]at he;subst he;have hbx:=HXB.out;unfold IK at hb';rw[hb']at hbx;simp only[Option.some.injEq,Obj.cells.injEq,and_true,Array.mk.injEq,List.cons.injEq,Value.string.injEq,Value.int.injEq,true_and]at hbx;obtain⟨hq1,rfl,rfl,hq4⟩:=hbx;refine⟨rfl,_,M',hag,hwd',f3 M' m hs',?_⟩;have h9:=f4 t hq1.symm hq4.symm (hR'.base HWN.out) (hB'.base HWN.out);rw[HMP.out]at h9;exact h9
end
end Go.Proofs.YthfkpalfopdmhaaGreatDoor
namespace Go.Proofs.YthfkpalfopdmhaaGreatDoor
open Go.RowKit
section
variable {M:List Tok} {B g i N:Nat} {lv:Value} {p:Pv} {w:World}
set_option maxRecDepth 100000 in
set_option maxHeartbeats 4000000 in
theorem Tf (h:S5 M B g lv i p w) {rs:List Thr} (ho:FT w N p.e rs) (hrs:rs≠[]) (hi:i<M.length):Calls Tryz.prog 138 #[.pointer (some ⟨g,0,none⟩)] w (Gf g lv N (badR M i 5:RS Thr) (fun _ _ _=>False) w):=by
 have HW5:=AA (K3 h);have HE:Hid ((if i<M.length then(5:Int)else 6)=5):=AA (by rw[if_pos hi]);have HBR:Hid ((badR M i 5:RS Thr)=.bad 5 (AT M i)):=AA (by unfold badR;rw[if_pos hi]);obtain⟨K,hK,hmap⟩:=ho;obtain⟨A,c,hv, -, -, -⟩:=AX hK.row;have hkl:(0:Int)<(K.length:Int):=by
  cases K with
  |nil=>exact absurd hmap.symm (by simpa using hrs)
  |cons a l=>simp
 obtain⟨q0,hb0⟩:=h.blk;obtain⟨hgl, -, -, -, -, -, -,c6, -, -, -⟩:=hb0.cells;rw[hv]at c6;clear hi hK hmap hv h hb0 hrs;go_enter Tryz.func138,Tryz.ntmps138;go_wp2_with fail
 refine HW5.out.mono ?_;rw[HE.out];rintro e w1 ⟨rfl,hs1,hb1,hk1⟩;have HB1:=AA hb1;have HK1:=AA hk1;clear hs1 hb1 hk1;go_wp2_with fail
 go_ret;rw[HBR.out];exact⟨Cc HK1.out,rfl,by decide,i,p,HB1.out⟩
set_option maxRecDepth 100000 in
set_option maxHeartbeats 16000000 in
theorem QBi (h:S5 M B g lv i p w) (hwd:CJ M) (hgN:g<N) (hlN:∀q,lv.ownBlock=some q→q<N) (hNw:N≤w.heap.size) (ho:FT w N p.e []) (hi:i<M.length) {F:Nat} {r:RS Thr} (hr:IJ M F (i+1) [] (AT M i)=some r):
  Calls Tryz.prog 138 #[.pointer (some ⟨g,0,none⟩)] w (Gf g lv N r (fun t j w'=>∃v' M',Ea M M' j∧CJ M'∧S5 M' B g lv j {p with e:=v'} w'∧FT w' N v' ([]++[t])) w):=by
 obtain⟨i0,hi0,hz0,hz1,hz2⟩:=info_parts Xs;have HZ:=AA (show Tryz.prog.info? 41=some i0∧i0.zero=some (.agg #[.string ⟨#[]⟩,.slice none 0 0,.slice none 0 0,.int .i64 0])∧i0.size=4∧i0.bytes=72 from⟨hi0,hz0,hz1,hz2⟩);obtain⟨K,hK,hmap⟩:=ho;have HKO:=AA hK;have HMP:=AA hmap;have HKL:Hid (K.length≤10000):=AA (by rw[List.map_eq_nil_iff]at hmap;rw[hmap];simp);have HH:=AA h;have HW:=AA hwd;have HGN:=AA hgN;have HLN:=AA hlN;have HNW:=AA hNw;obtain⟨pl,hpl⟩:∃pl,AT M i=pl:=⟨_,rfl⟩
 rw[hpl]at hr;have HR1:=AA hr;have HPL:=AA (QP h);rw[hpl]at HPL;obtain⟨A6,c6v,hv6, -, -, -⟩:=AX hK.row;have hk0:K.length=0:=by rw[List.map_eq_nil_iff]at hmap;rw[hmap];rfl
 rw[hk0]at hv6;have HV6:=AA hv6;obtain⟨q0,hb0⟩:=h.blk;obtain⟨hgl, -, -, -, -, -, -,c6, -, -, -⟩:=hb0.cells;rw[hv6]at c6;have hlen:=h.len;have HI:=AA hi;clear hi0 hz0 hz1 hz2 hK hmap h hwd hgN hlN hNw hr hb0 hi hpl hv6 hk0;go_enter Tryz.func138,Tryz.ntmps138;go_wp2_with fail
 refine HPL.out.mono ?_;rintro e w2 ⟨rfl,hb2⟩;have HS2:=AA (HH.out.on hb2);have HK2:Hid (AG (fun q=>q=g) w w2):=AA (AG.of hb2);have HBZ:Hid (w.heap.size≤w2.heap.size):=AA hb2.size;clear hb2 c6;obtain⟨q2,hbk2⟩:=HS2.out.blk;obtain⟨hgl2, -,c1, -, -, -, -, -, -, -,fz⟩:=hbk2.cells;have f1:=fz 1;have hw1:IntKind.i64.wrap ((i:Int)+1)=(i:Int)+1:=IntWalk.i64_in _ (by have:=HI.out;omega);clear hbk2 fz;go_wp2_with fail
 obtain⟨b,hbz⟩:∃b,w2.heap.size=b:=⟨_,rfl⟩
 have hsz:(w2.setCell ⟨g,1,none⟩ (.int .i64 ((i:Int)+1))).heap.size=b:=by rw[←hbz];simp
 have HS3:Hid (S5 M B g lv (i+1) p (w2.setCell ⟨g,1,none⟩ (.int .i64 ((i:Int)+1)))):=AA (HS2.out.set1 (by have:=HI.out;omega));have hk3:AG (fun q=>q=g) w2 (w2.setCell ⟨g,1,none⟩ (.int .i64 ((i:Int)+1))):=AG.set;have HK3:=AA (Ak HK2.out hk3);rw[hbz];have HBW:Hid (w.heap.size≤b):=AA (by have:=HBZ.out;omega);have HB8:Hid (8<b):=AA (by have:=HS2.out.tabs.lt2;omega);generalize w2.setCell ⟨g,1,none⟩ (.int .i64 ((i:Int)+1))=w3 at *;have hX1:(w3.alloc (.cells #[.string ⟨#[]⟩,.slice none 0 0,.slice none 0 0,.int .i64 pl] 41)).heap[b]?=_:=alloc_at hsz
 have hBX:Below w3.heap.size w3 (w3.alloc (.cells #[.string ⟨#[]⟩,.slice none 0 0,.slice none 0 0,.int .i64 pl] 41)):=(Below.refl _ _).alloc (Nat.le_refl _) _;generalize w3.alloc (.cells #[.string ⟨#[]⟩,.slice none 0 0,.slice none 0 0,.int .i64 pl] 41)=w5 at *;have HX5:Hid (IK w5 b [] (.slice none 0 0) (.slice none 0 0) pl):=AA hX1;have HS5:=AA (HS3.out.on hBX);have HK5:=AA (Ab HK3.out hBX);clear hX1 hBX hbz hsz hk3;clear c1 f1 hw1 hgl hgl2;refine(QBe HS5.out HW.out HX5.out HB8.out HR1.out).mono ?_;intro e X hp;have HWN:Hid (N≤w5.heap.size):=AA (by have:=HNW.out;have:=HK5.out.size;omega);have HPX:=AA hp
 have HTX:Hid (AG (KO g lv N) w X):=AA ((Cc HK5.out).trans hp.1 (fun _ _ h=>h) (fun k hk e=>e.elim .inl (fun e=>e.elim (fun e=>by have:=HBW.out;omega) (fun e=>.inr (.inl e)))));obtain⟨er,i2,q2,s,AR,nR,cR,AB,nB,cB,pl',rfl,hbx2,hxb2⟩:=hp.any;have HBX:=AA hbx2;have HXB:=AA hxb2;obtain⟨hgX, -, -, -, -, -,k5,k6, -, -,fzX⟩:=hbx2.cells;have c5:=k6;have f5:=fzX 6;have z0:X.cell? ⟨b,0,none⟩=some (.string s):=by rw[Lib.cell_of_heap hxb2];rfl
 have z1:X.cell? ⟨b,1,none⟩=some (.slice AR nR cR):=by rw[Lib.cell_of_heap hxb2];rfl
 have z2:X.cell? ⟨b,2,none⟩=some (.slice AB nB cB):=by rw[Lib.cell_of_heap hxb2];rfl
 have z3:X.cell? ⟨b,3,none⟩=some (.int .i64 pl'):=by rw[Lib.cell_of_heap hxb2];rfl
 have HKX:Hid (DY X N p.e K):=AA ((HKO.out.keepT HK5.out (fun q cs T hB hh hT e=>by have:=HGN.out;omega)).keepR hp.1 (fun q hq e=>by
  have hqw:q<w.heap.size:=(Array.getElem?_eq_some_iff.1 (AM HKO.out.row q hq).2.choose_spec).1;have hqN:=(AM HKO.out.row q hq).1;rcases e with e|e|e
  ·have:=HGN.out;omega
  ·have:=HBW.out;omega
  ·have:=HLN.out q e;omega) (fun q cs T hB hh hT e=>by
  rcases e with e|e|e
  ·have:=HGN.out;omega
  ·rw[e,show w5.heap[b]?=_ from HX5.out]at hh;simp only[Option.some.injEq,Obj.cells.injEq]at hh;rw[←hh.2.1]at hT;simp at hT
  ·have:=HLN.out q e;omega))
 have HNO:Hid (∀q,p.e.ownBlock=some q→q≠g):=AA (fun q hq e=>by have:=(AM HKX.out.row q hq).1;have:=HGN.out;omega);have HNX:Hid (N≤X.heap.size):=AA (by have:=HNW.out;have:=HTX.out.size;omega);clear hp hbx2 hxb2 fzX k5 k6;go_wp2_with fail
 go_region_law (refine step_append_lies _ rfl (.tmp 31) (.tmp 33) 24 rfl N 41 i0 (.agg #[.string ⟨#[]⟩,.slice none 0 0,.slice none 0 0,.int .i64 0]) 4 72 Tryz.underlying24 HZ.out.1 HZ.out.2.1 HZ.out.2.2.1 HZ.out.2.2.2 rfl (by decide) p.e K.length (K.flatMap EQ) (by rfl) (Td HKX.out.row) ⟨X.heap.size,0,none⟩ 1 1 [.string s,.slice AR nR cR,.slice AB nB cB,.int .i64 pl'] (by rfl) (by rfl) (World.news_of_block (cs:=#[.string s,.slice AR nR cR,.slice AB nB cB,.int .i64 pl']) (TJ X _)) Xt (by decide) (by have:=HKL.out;unfold maxLen;omega) (by have:=HKL.out;omega) (NJ HNX.out) (X.heap.size+1) (by simp) ?_;intro g5 cap w5 hown5 hgrow5 hat5 hlt5;obtain⟨d5,e5⟩:=cell_grown hgrow5 HNO.out hgX c5 f5;have hg5:g<w5.heap.size:=Nat.lt_of_lt_of_le hgX (Nat.le_trans (by simp) hgrow5.size))
 all_goals
  have HFIN:=AA (QBh (B:=B) HTX.out HBX.out HGN.out HKX.out hgrow5 hown5);clear hown5 hgrow5 hat5;go_wp2_with fail
  go_ret;obtain⟨f1,f2,f3,f4⟩:=HFIN.out;refine⟨f1,?_⟩;have h2:=HPX.out.2;cases r with
  |bad e2 q=>
   obtain⟨he,hne,⟨i3,hb3⟩,A,n,c,hx⟩:=h2;simp only[Ending.returned.injEq,Value.int.injEq,true_and]at he;subst he;have hq:q2=q:=by
    have h3:=HBX.out;unfold Bl at h3 hb3;rw[h3]at hb3;simp at hb3;exact hb3.2
   subst hq;exact⟨rfl,hne,i2,_,f2⟩
  |ok t m=>
   obtain⟨he,M',vR,vB,hag,hwd',hs',hb',hR',hB'⟩:=h2;simp only[Ending.returned.injEq,Value.int.injEq,true_and]at he;subst he;have hbx:=HXB.out;unfold IK at hb';rw[hb']at hbx;simp only[Option.some.injEq,Obj.cells.injEq,and_true,Array.mk.injEq,List.cons.injEq,Value.string.injEq,Value.int.injEq,true_and]at hbx;obtain⟨hq1,rfl,rfl,hq4⟩:=hbx;refine⟨rfl,_,M',hag,hwd',f3 M' m hs',?_⟩;have h9:=f4 t hq1.symm hq4.symm (hR'.base HWN.out) (hB'.base HWN.out);rw[HMP.out]at h9;exact h9
theorem QDg {A:Option Addr} {n c:Nat} {pl:Int}:∀u∈[Value.slice A n c,.int .i64 pl],u.oneCell'=true:=by
 intro u hu;simp at hu;rcases hu with rfl|rfl<;>rfl
theorem QE4 {X w5:World} {i2 q2:Int} {K:List Cv} {vE v5:Value} {pl:Int} {o:Obj} (hX:AG (KO g lv N) w X) (hb:Bl X g lv i2 p q2) (hgN:g<N) (hK:ER X N p.f K)
  (hgrow:(X.drew.alloc o).grownBy w5 p.f.ownBlock) (hown:w5.ownsRow N 50 2 v5 (K.length+1) (K.flatMap GY++[vE,.int .i64 pl])) {e:List Nod} (hE:CY N X vE e):
  AG (KO g lv N) w (w5.setCell ⟨g,7,none⟩ v5)∧Bl (w5.setCell ⟨g,7,none⟩ v5) g lv i2 {p with f:=v5} q2∧(∀m,S5 M B g lv m p X→S5 M B g lv m {p with f:=v5} (w5.setCell ⟨g,7,none⟩ v5))∧ER (w5.setCell ⟨g,7,none⟩ v5) N v5 (K++[⟨⟨e,pl⟩,vE⟩]):=by
 have hB1:Below X.heap.size X (X.drew.alloc o):=(AD X).alloc (Nat.le_refl _) o;have hk1:AG (fun q=>p.f.ownBlock=some q) X w5:=ES hB1 (AG.grown hgrow);have hng:¬p.f.ownBlock=some g:=fun e=>by have:=(AM hK.row g e).1;omega
 have hks:AG (fun q=>q=g) w5 (w5.setCell ⟨g,7,none⟩ v5):=AG.set;have hb5:Bl w5 g lv i2 p q2:=Ep hb hk1 hng;have hbk:Bl (w5.setCell ⟨g,7,none⟩ v5) g lv i2 {p with f:=v5} q2:=Am hb5;have hty:∀q,p.f.ownBlock=some q→N≤q∧∃cs,X.heap[q]?=some (.cells cs 50 (0,0)):=AM hK.row;have hkk:AG (fun q=>q=g∨p.f.ownBlock=some q) X (w5.setCell ⟨g,7,none⟩ v5):=hk1.trans hks (fun _ _ h=>.inr h) (fun _ _ h=>.inl h);have hav:Av (fun q=>q=g∨p.f.ownBlock=some q) X N [46]:=fun q cs T hB hh hT=>by
  rintro(e|e)
  ·omega
  ·obtain⟨_,cs1,h5⟩:=hty q e;rw[h5]at hh;simp only[Option.some.injEq,Obj.cells.injEq]at hh;rw[←hh.2.1]at hT;simp at hT
 refine⟨Ak (hX.trans hk1 (fun _ _ h=>h) (fun k _ e=>.inr (.inr (hty k e).1))) (Cc hks),hbk,fun m hs=>?_,⟨?_,fun x hx=>?_⟩⟩
 ·have hi2:i2=m:=by
   obtain⟨q3,hq3⟩:=hs.blk;unfold Bl at hb hq3;rw[hb]at hq3;simp at hq3;exact hq3.1
  subst hi2;exact(hs.far hk1 hng (fun q hq e=>by
   obtain⟨_,cs1,h5⟩:=hty q e;obtain⟨_,cs2,h6⟩:=AM hs.toks q hq;rw[h5]at h6;simp at h6) (fun q hq e=>by have:=(hty q e).1;have:=hs.gB;omega)).put hks hbk hs.il
 ·rw[List.length_append,List.flatMap_append];have h6:w5.ownsRow N 50 2 v5 (K.length+1) (K.flatMap GY++[(⟨⟨e,pl⟩,vE⟩:Cv)].flatMap GY):=hown;exact AW h6 hks (fun q hq e=>by have:=(AM h6 q hq).1;omega)
 ·rcases List.mem_append.1 hx with hx|hx
  ·exact(hK.sub x hx).keepT hkk hav
  ·obtain rfl:x=⟨⟨e,pl⟩,vE⟩:=by simpa using hx
   exact hE.keepT hkk hav
set_option maxRecDepth 100000 in
set_option maxHeartbeats 16000000 in
theorem QBj (h:S5 M B g lv i p w) (hgN:g<N) (hNw:N≤w.heap.size) {cs:List Clm} (ho:It w N p.f cs) (hls:cs.length≤10000) (hi:i<M.length) {r:RS Clm} (hr:E8 M (i+1) (AT M i)=r):
  Calls Tryz.prog 139 #[.pointer (some ⟨g,0,none⟩)] w (Gf g lv N r (fun c j w'=>∃v',S5 M B g lv j {p with f:=v'} w'∧It w' N v' (cs++[c])) w):=by
 obtain⟨i0,hi0,hz0,hz1,hz2⟩:=info_parts QDf;have HZ:=AA (show Tryz.prog.info? 50=some i0∧i0.zero=some (.agg #[.slice none 0 0,.int .i64 0])∧i0.size=2∧i0.bytes=32 from⟨hi0,hz0,hz1,hz2⟩);obtain⟨K,hK,hmap⟩:=ho;have HKO:=AA hK;have HMP:=AA hmap;have HKL:Hid (K.length≤10000):=AA (by rw[←hmap,List.length_map]at hls;exact hls);have HH:=AA h;have HGN:=AA hgN;have HNW:=AA hNw;obtain⟨pl,hpl⟩:∃pl,AT M i=pl:=⟨_,rfl⟩
 rw[hpl]at hr;have HR1:=AA hr;have HPL:=AA (QP h);rw[hpl]at HPL;have hlen:=h.len;have HI:=AA hi;clear hi0 hz0 hz1 hz2 hK hmap h hgN hNw hr hi hpl hls;go_enter Tryz.func139,Tryz.ntmps139;go_wp2_with fail
 refine HPL.out.mono ?_;rintro e w2 ⟨rfl,hb2⟩;have HS2:=AA (HH.out.on hb2);have HK2:Hid (AG (fun q=>q=g) w w2):=AA (AG.of hb2);have HBZ:Hid (w.heap.size≤w2.heap.size):=AA hb2.size;clear hb2;obtain⟨q2,hbk2⟩:=HS2.out.blk;obtain⟨hgl2, -,c1, -, -, -, -, -, -, -,fz⟩:=hbk2.cells;have f1:=fz 1;have hw1:IntKind.i64.wrap ((i:Int)+1)=(i:Int)+1:=IntWalk.i64_in _ (by have:=HI.out;omega);clear hbk2 fz;go_wp2_with fail
 obtain⟨b,hbz⟩:∃b,w2.heap.size=b:=⟨_,rfl⟩
 have hsz:(w2.setCell ⟨g,1,none⟩ (.int .i64 ((i:Int)+1))).heap.size=b:=by rw[←hbz];simp
 have HS3:Hid (S5 M B g lv (i+1) p (w2.setCell ⟨g,1,none⟩ (.int .i64 ((i:Int)+1)))):=AA (HS2.out.set1 (by have:=HI.out;omega));have hk3:AG (fun q=>q=g) w2 (w2.setCell ⟨g,1,none⟩ (.int .i64 ((i:Int)+1))):=AG.set;have HK3:=AA (Ak HK2.out hk3);rw[hbz];have HBW:Hid (w.heap.size≤b):=AA (by have:=HBZ.out;omega);generalize w2.setCell ⟨g,1,none⟩ (.int .i64 ((i:Int)+1))=w3 at *;have hX1:(w3.alloc (.cells #[.slice none 0 0,.int .i64 pl] 50)).heap[b]?=_:=alloc_at hsz;have hBX:Below w3.heap.size w3 (w3.alloc (.cells #[.slice none 0 0,.int .i64 pl] 50)):=(Below.refl _ _).alloc (Nat.le_refl _) _
 generalize w3.alloc (.cells #[.slice none 0 0,.int .i64 pl] 50)=w5 at *;have HX5:Hid (w5.heap[b]?=some (.cells #[.slice none 0 0,.int .i64 pl] 50 (0,0))):=AA hX1;have HS5:=AA (HS3.out.on hBX);have HK5:=AA (Ab HK3.out hBX);obtain⟨q5,hbk5⟩:=HS5.out.blk;have hbg:¬b=g:=OE hbk5 hX1 (by decide);have hgb:¬g=b:=fun e=>hbg e.symm
 obtain⟨hgl,c0,c1', -, -, -, -, -, -, -, -⟩:=hbk5.cells;clear hX1 hBX hbz hsz hk3 c1 f1 hw1 hgl2 hbk5;unfold E8 at HR1;obtain⟨V,hV⟩:∃V,EH M ((i+1:Nat):Int)=V:=⟨_,rfl⟩
 have HVV:=AA hV;clear hV;go_region_held3 (fun w'=>w'.cell? ⟨g,0,none⟩=some lv∧w'.cell? ⟨g,1,none⟩=some (.int .i64 ((i+1:Nat):Int))∧Below w5.heap.size w5 w')
  (first|exact⟨c0,c1',Below.refl _ _⟩|exact⟨c0,c1',AD _⟩|exact⟨(hb1.cell (p:=⟨g,0,none⟩) hgl).trans c0,(hb1.cell (p:=⟨g,1,none⟩) hgl).trans c1',AC (AD _) hb1⟩)
  (first|(go_at_call 185;refine(parse_any lv M ((i+1:Nat):Int) _ (HS5.out.on (AD _)).read (HS5.out.on (AD _)).tabs HS5.out.len HS5.out.small).mono ?_;rw[HVV.out];rintro e w6 ⟨v,rfl,ho,hb1⟩))
 obtain⟨A5,n5,c5,rfl⟩:=IR ho;have HO:=AA ho;have HBE:=AA (AC (AD w5) hb1);have HS6:=AA (HS5.out.on HBE.out);have HX6:Hid (w6.heap[b]?=some (.cells #[.slice none 0 0,.int .i64 pl] 50 (0,0))):=AA (by rw[HBE.out.block b (Array.getElem?_eq_some_iff.1 HX5.out).1];exact HX5.out);have HK6:=AA (Ab HK5.out HBE.out);obtain⟨q6,hbk6⟩:=HS6.out.blk;obtain⟨hgl6,d0,d1, -, -, -, -, -, -,d8,fz⟩:=hbk6.cells;have f8:=fz 8;clear ho hb1 c0 c1' hbk6;by_cases he:V.err=0
 ·rcases J4 M (i+1)with⟨hx,_⟩|⟨x,_,_,_,_,m,hx,hx1,hx2⟩
  ·rw[HVV.out]at hx;exact absurd he hx
  have HP:Hid (exprP M (i+1)=.ok x.flat m):=AA (by unfold exprP;rw[HVV.out,if_pos he,←HVV.out,hx];simp);rw[HVV.out]at hx;subst hx;simp only at HO⊢;have hne0:((0:Int) != 0)=false:=by decide
  have HR2:Hid ((Bg M m [59]).bind (fun _ k=>.ok ⟨x.flat,pl⟩ k)=r):=AA (by have h1:=HR1.out;rw[HP.out]at h1;exact h1);have HML:Hid (m≤M.length):=AA hx2;have hE6:CY w.heap.size w6 (.slice A5 n5 c5) x.flat:=HO.out.readE HK5.out.size;have xb0:w6.cell? ⟨b,0,none⟩=some (.slice none 0 0):=by rw[Lib.cell_of_heap HX6.out];rfl
  have fb0:w6.frozen? ⟨b,0,none⟩=false:=Lib.frozen_of_heap HX6.out 0;have hkb:AG (fun q=>q=b) w6 (w6.setCell ⟨b,0,none⟩ (.slice A5 n5 c5)):=AG.set;have hxX:(w6.setCell ⟨b,0,none⟩ (.slice A5 n5 c5)).heap[b]?=some (.cells #[.slice A5 n5 c5,.int .i64 pl] 50 (0,0)):=Am HX6.out;have hsX:S5 M B g lv (i+1) p (w6.setCell ⟨b,0,none⟩ (.slice A5 n5 c5)):=HS6.out.far hkb hgb (fun q hq e=>by
   obtain⟨_,cs2,h6⟩:=AM HS6.out.toks q hq;rw[e,HX6.out]at h6;simp at h6) (fun q hq e=>by have:=HBW.out;have:=HS2.out.tabs.lt2;have:=HH.out.tabs.lt2;omega)
  have HKX0:=AA (Fp HK6.out hkb HBW.out);have HEX:Hid (CY N (w6.setCell ⟨b,0,none⟩ (.slice A5 n5 c5)) (.slice A5 n5 c5) x.flat):=AA ((hE6.base HNW.out).keepT hkb (fun q cs T hB hh hT e=>by
   simp at hT;subst hT;rw[e,HX6.out]at hh;simp at hh))
  have HKX:Hid (ER (w6.setCell ⟨b,0,none⟩ (.slice A5 n5 c5)) N p.f K):=AA (by
   have h1:ER w6 N p.f K:=HKO.out.keepT HK6.out (fun q cs T hB hh hT e=>by have:=HGN.out;omega);refine⟨AW h1.row hkb (fun q hq e=>?_),fun x hx=>(h1.sub x hx).keepT hkb (fun q cs T hB hh hT e=>?_)⟩
   ·have:=(Array.getElem?_eq_some_iff.1 (AM HKO.out.row q hq).2.choose_spec).1;have:=HBW.out;omega
   ·simp at hT;subst hT;rw[e,HX6.out]at hh;simp at hh)
  have HSX:=AA hsX;have HXX:=AA hxX;clear hx1 hx2 he hE6 hkb hxX hsX d0 d1 d8 f8 fz;go_wp2_with fail
  generalize w6.setCell ⟨b,0,none⟩ (.slice A5 n5 c5)=X at *;obtain⟨qX,hbX⟩:=HSX.out.blk;have HBX:=AA hbX;obtain⟨hgX, -, -, -, -, -, -, -,c7, -,fzX⟩:=hbX.cells;have f7:=fzX 7;have z0:X.cell? ⟨b,0,none⟩=some (.slice A5 n5 c5):=by rw[Lib.cell_of_heap HXX.out];rfl
  have z1:X.cell? ⟨b,1,none⟩=some (.int .i64 pl):=by rw[Lib.cell_of_heap HXX.out];rfl
  have HNO:Hid (∀q,p.f.ownBlock=some q→q≠g):=AA (fun q hq e=>by have:=(AM HKX.out.row q hq).1;have:=HGN.out;omega);have HNX:Hid (N≤X.heap.size):=AA (by have:=HNW.out;have:=HKX0.out.size;omega);clear hbX fzX xb0 fb0
  go_region_law (refine step_append_lies _ rfl (.tmp 46) (.tmp 48) 25 rfl N 50 i0 (.agg #[.slice none 0 0,.int .i64 0]) 2 32 Tryz.underlying25 HZ.out.1 HZ.out.2.1 HZ.out.2.2.1 HZ.out.2.2.2 rfl (by decide) p.f K.length (K.flatMap GY) (by rfl) (Td HKX.out.row) ⟨X.heap.size,0,none⟩ 1 1 [.slice A5 n5 c5,.int .i64 pl] (by rfl) (by rfl) (World.news_of_block (cs:=#[.slice A5 n5 c5,.int .i64 pl]) (TJ X _)) QDg (by decide) (by have:=HKL.out;unfold maxLen;omega) (by have:=HKL.out;omega) (NJ HNX.out) (X.heap.size+1) (by simp) ?_;intro g5 cap w7 hown5 hgrow5 hat5 hlt5;obtain⟨d5,e5⟩:=cell_grown hgrow5 HNO.out hgX c7 f7;have hg5:g<w7.heap.size:=Nat.lt_of_lt_of_le hgX (Nat.le_trans (by simp) hgrow5.size))
  all_goals
   obtain⟨f1,f2,f3,f4⟩:=QE4 (M:=M) (B:=B) (Cc (lv:=lv) (N:=N) HKX0.out) HBX.out HGN.out HKX.out hgrow5 hown5 HEX.out;have hs8:=f3 _ HSX.out;have hb7:Bl w7 g lv ((i+1:Nat):Int) p qX:=Ep HBX.out (ES ((AD X).alloc (Nat.le_refl _) _) (AG.grown hgrow5)) (fun e=>HNO.out g e rfl);obtain⟨hl7, -,m1, -, -, -, -, -, -, -,fz7⟩:=hb7.cells;have fm1:=fz7 1;clear fz7 hb7;have HT8:=AA f1;have HS8:=AA hs8;have HO8:=AA f4;clear hown5 hgrow5 hat5 f1 f2 f3 f4 hs8;go_wp2_with fail
   generalize w7.setCell ⟨g,7,none⟩ (.slice (some ⟨g5,0,none⟩) (K.length+1) cap)=w8 at *;have HS9:Hid (S5 M B g lv m {p with f:=.slice (some ⟨g5,0,none⟩) (K.length+1) cap} (w8.setCell ⟨g,1,none⟩ (.int .i64 m))):=AA (HS8.out.set1 HML.out);have hk9:AG (fun q=>q=g) w8 (w8.setCell ⟨g,1,none⟩ (.int .i64 m)):=AG.set;have HT9:=AA (Ak HT8.out (Cc hk9));have HO9:=AA (HO8.out.keepT hk9 (fun q cs T hB hh hT e=>by have:=HGN.out;omega));clear hk9;generalize w8.setCell ⟨g,1,none⟩ (.int .i64 m)=w9 at *;clear d5 e5 hg5 hlt5 m1 fm1 hl7;refine(Xr HS9.out [59]).mono ?_;intro e w10 hp;obtain⟨hk10,hp⟩:=hp
   have HT10:=AA (Ak HT9.out (Cc hk10));have HO10:=AA (HO9.out.keepT hk10 (fun q cs T hB hh hT e=>by have:=HGN.out;omega));cases hm:Bg M m [59]with
   |bad er q=>
    rw[hm]at hp;obtain⟨rfl,hne,i4,hb4⟩:=hp;have HNE:=AA hne;have HB4:=AA hb4;have HRR:Hid (r=.bad er q):=AA (by have h1:=HR2.out;rw[hm]at h1;exact h1.symm);clear hm hk10 hne hb4;go_wp2_with fail
    go_ret;rw[HRR.out];exact⟨HT10.out,rfl,HNE.out,i4,_,HB4.out⟩
   |ok u j=>
    rw[hm]at hp;obtain⟨rfl,hs10⟩:=hp;have HS10:=AA hs10;have HRR:Hid (r=.ok ⟨x.flat,pl⟩ j):=AA (by have h1:=HR2.out;rw[hm]at h1;exact h1.symm);clear hm hk10 hs10;go_wp2_with fail
    go_ret;rw[HRR.out];exact⟨HT10.out,rfl,_,HS10.out,_,HO10.out,by rw[List.map_append,HMP.out];rfl⟩
 ·have HP:Hid (exprP M (i+1)=.bad V.err V.pl):=AA (by unfold exprP;rw[HVV.out,if_neg he]);have HRR:Hid (r=.bad V.err V.pl):=AA (by have h1:=HR1.out;rw[HP.out]at h1;exact h1.symm);have HNE:=AA he;clear HVV HP;obtain⟨Vn,Vt,er,p6⟩:=V;simp only at he HRR HNE⊢;have hne2:(er != 0)=true:=by simp[he]
  clear he;go_wp2_with fail
  go_ret;rw[HRR.out];have hks:AG (fun q=>q=g) w6 (w6.setCell ⟨g,8,none⟩ (.int .i64 p6)):=AG.set;exact⟨Cc (Ak HK6.out hks),rfl,HNE.out,_,p,(HS6.out.set8 p6).2⟩
end
end Go.Proofs.YthfkpalfopdmhaaGreatDoor
