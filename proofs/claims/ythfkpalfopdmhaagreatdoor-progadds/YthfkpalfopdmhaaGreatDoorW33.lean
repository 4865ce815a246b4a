/- Texts of the walk, packed. -/
import Derived.Test.YthfkpalfopdmhaaGreatDoorW32
import Derived.Test.YthfkpalfopdmhaaGreatDoorW00
namespace Go.Proofs.YthfkpalfopdmhaaGreatDoor
open Go.RowKit
section
variable {M:List Tok} {B g i:Nat} {lv:Value} {p:Pv} {w:World}
theorem QCc {er pl:Int} (h:GW false M i=.bad er pl):GW true M i=.bad er pl:=by
 rw[Q2]at h;unfold GW;cases hn:Bd M i with
 |ok s j=>rw[hn]at h;cases h
 |bad e q=>rw[hn]at h;simpa using h
theorem QEk {c:Cel} {j:Nat} (h:GW false M i=.ok c j):GW true M i=if isB M j [61]=true then(match numAt M (j+1)with
  |some n=>.ok ⟨c.name,n,c.pl⟩ (j+2)
  |none=>badR M (j+1) 5)else .ok c j:=by
 rw[Q2]at h;unfold GW;cases hn:Bd M i with
 |bad e q=>rw[hn]at h;cases h
 |ok s k=>
  rw[hn]at h;simp only[RS.bind_ok,RS.ok.injEq]at h;obtain⟨rfl,rfl⟩:=h;simp;rfl
structure QHN (w:World) (b:Nat) (x0 x1 x2:Value):Prop where
 lt:b<w.heap.size
 c0:w.cell? ⟨b,0,none⟩=some x0
 c1:w.cell? ⟨b,1,none⟩=some x1
 c2:w.cell? ⟨b,2,none⟩=some x2
 f0:w.frozen? ⟨b,0,none⟩=false
 f1:w.frozen? ⟨b,1,none⟩=false
 f2:w.frozen? ⟨b,2,none⟩=false
theorem EX {b:Nat} {T:TypeId} {x0 x1 x2:Value} (h:w.heap[b]?=some (.cells #[x0,x1,x2] T (0,0))):QHN w b x0 x1 x2:=
 ⟨(Array.getElem?_eq_some_iff.1 h).1,by rw[Lib.cell_of_heap h];rfl,by rw[Lib.cell_of_heap h];rfl,by rw[Lib.cell_of_heap h];rfl,Lib.frozen_of_heap h 0,Lib.frozen_of_heap h 1,Lib.frozen_of_heap h 2⟩
theorem UQ {b:Nat} {cs:Array Value} {T:TypeId} {w':World} (hk:AG (fun k=>k=g) w w') (h:w.heap[b]?=some (.cells cs T (0,0))) (hb:¬b=g):w'.heap[b]?=some (.cells cs T (0,0)):=by
 rw[hk.block b (Array.getElem?_eq_some_iff.1 h).1 hb];exact h
set_option maxRecDepth 100000 in
set_option maxHeartbeats 8000000 in
theorem QFh (h:S5 M B g lv i p w) (hwd:CE M):Calls Tryz.prog 181 #[.pointer (some ⟨g,0,none⟩)] w (UP M B g lv p (GW true M i) w):=by
 have HB0:Hid (Below w.heap.size w (w.alloc (.cells #[.string ⟨#[]⟩,.int .i64 0,.int .i64 0] 48))):=AA ((Below.refl _ _).alloc (Nat.le_refl _) _);have HS:=AA (h.on HB0.out);have HW:=AA hwd;have HH:=AA h;clear h hwd;go_enter Tryz.func181,Tryz.ntmps181;go_wp2_with fail
 obtain⟨b0,hb0⟩:∃b0,w.heap.size=b0:=⟨_,rfl⟩
 have hlt:b0<(w.alloc (.cells #[.string ⟨#[]⟩,.int .i64 0,.int .i64 0] 48)).heap.size:=by simp[hb0]
 have hblk:=heap_alloc_new w (.cells #[.string ⟨#[]⟩,.int .i64 0,.int .i64 0] 48);rw[hb0]at hblk⊢;have HBZ:=AA hb0;clear hb0;generalize w.alloc (.cells #[.string ⟨#[]⟩,.int .i64 0,.int .i64 0] 48)=W at *;refine(QFg HS.out HW.out).mono ?_;intro e w1 hp;obtain⟨hk1,hp⟩:=hp;obtain⟨pl0,hpl0⟩:=HS.out.blk;have hneg:¬b0=g:=Of hpl0 hblk (by decide);have HX1:Hid (w1.heap[b0]?=some (.cells #[.string ⟨#[]⟩,.int .i64 0,.int .i64 0] 48 (0,0))):=AA (by rw[hk1.block b0 hlt hneg];exact hblk);have HK1:Hid (AG (fun k=>k=g) w w1):=AA (Cd HB0.out hk1);have hbw:w.heap.size<=b0:=by have:=HBZ.out;omega
 have hgb:¬g=b0:=fun e=>hneg e.symm
 clear hblk hpl0 hlt;cases hn:GW false M i with
 |bad er pl=>
  rw[hn]at hp;obtain⟨⟨s,n,q,rfl⟩,hne,i',hb'⟩:=hp;have HNE:=AA hne;have hne2:(er != 0)=true:=by simp[hne]
  have HB':=AA hb';have HR:Hid (GW true M i=.bad er pl):=AA (QCc hn);clear hn hk1 hne hb';go_wp2_with fail
  obtain⟨b1,hb1⟩:∃b1,w1.heap.size=b1:=⟨_,rfl⟩
  have hX1:=heap_alloc_new w1 (.cells #[.string s,.int .i64 n,.int .i64 q] 48);have hBX:Below w1.heap.size w1 (w1.alloc (.cells #[.string s,.int .i64 n,.int .i64 q] 48)):=(Below.refl _ _).alloc (Nat.le_refl _) _;generalize w1.alloc (.cells #[.string s,.int .i64 n,.int .i64 q] 48)=X at *;rw[hb1]at hX1⊢;have HX0:Hid (X.heap[b0]?=some (.cells #[.string ⟨#[]⟩,.int .i64 0,.int .i64 0] 48 (0,0))):=AA (by rw[hBX.block b0 (Array.getElem?_eq_some_iff.1 HX1.out).1];exact HX1.out);have HKX:=AA (AT HK1.out hBX);have HBX:=AA (HB'.out.on hBX);obtain⟨l1,d0,d1,d2, -, -, -⟩:=EX hX1;obtain⟨l0,z0,z1,z2,e0,e1,e2⟩:=EX HX0.out
  clear hX1 hBX hb1
  go_quiet (fail)
  go_wp2_with fail
  have h3:=Xi (w:=X.drewN nq) HX0.out (.string s) (.int .i64 n) (.int .i64 q);have hk3:=Gt (w:=X.drewN nq) (b:=b0) (.string s) (.int .i64 n) (.int .i64 q);have HKD:=AA (AT HKX.out (AM X nq));have HBD:=AA (HBX.out.on (AM X nq));generalize(((X.drewN nq).setCell ⟨b0,0,none⟩ (.string s)).setCell ⟨b0,1,none⟩ (.int .i64 n)).setCell ⟨b0,2,none⟩ (.int .i64 q)=W3 at *;obtain⟨_,y0,y1,y2, -, -, -⟩:=EX h3;refine bodyPost_ret (v:=.tuple #[.agg #[.string s,.int .i64 n,.int .i64 q],.int .i64 er]) (by simp[results,Tryz.results181,go_sem,y0,y1,y2]) rfl ?_;rw[HR.out]
  exact⟨Fg HKD.out hk3 hbw,⟨_,_,_,rfl⟩,HNE.out,i',HBD.out.off hk3 hgb⟩
 |ok c j=>
  rw[hn]at hp;obtain⟨rfl,hs1⟩:=hp;have HR:=AA (QEk hn);obtain⟨s,n,q⟩:=c;simp only at HR⊢;have hne2:((0:Int) != 0)=false:=by decide
  have HS1:=AA hs1;clear hn hk1 hs1;go_wp2_with fail
  obtain⟨b1,hb1⟩:∃b1,w1.heap.size=b1:=⟨_,rfl⟩
  have hX1:=heap_alloc_new w1 (.cells #[.string ⟨s.toArray⟩,.int .i64 n,.int .i64 q] 48);have hBX:Below w1.heap.size w1 (w1.alloc (.cells #[.string ⟨s.toArray⟩,.int .i64 n,.int .i64 q] 48)):=(Below.refl _ _).alloc (Nat.le_refl _) _;generalize w1.alloc (.cells #[.string ⟨s.toArray⟩,.int .i64 n,.int .i64 q] 48)=X at *;rw[hb1]at hX1⊢;have hl01:=(Array.getElem?_eq_some_iff.1 HX1.out).1;have HX0:Hid (X.heap[b0]?=some (.cells #[.string ⟨#[]⟩,.int .i64 0,.int .i64 0] 48 (0,0))):=AA (by rw[hBX.block b0 hl01];exact HX1.out);have HKX:=AA (AT HK1.out hBX);have HSX:=AA (HS1.out.on hBX);have HXB:=AA hX1
  have hgb1:¬g=b1:=by have:=HS1.out.lt;omega
  have hb10:¬b1=b0:=by omega
  have hbw1:w.heap.size<=b1:=by have:=HK1.out.size;omega
  clear hX1 hBX hb1 hl01;obtain⟨pl,hbk⟩:=HSX.out.blk;obtain⟨hgl,c0,c1, -, -, -, -, -, -, -,fz⟩:=hbk.cells;have hlen:=HSX.out.len;clear hbk;cases hq:isB M j [61]with
  |false=>
   have HQ:=AA hq;clear hq fz;go_region_held3 (fun w'=>w'.cell? ⟨g,0,none⟩=some lv/\w'.cell? ⟨g,1,none⟩=some (.int .i64 j)/\Below X.heap.size X w')
    (first|exact⟨c0,c1,Below.refl _ _⟩|exact⟨c0,c1,AD _⟩|exact⟨(hb1.cell (p:=⟨g,0,none⟩) hgl).trans c0,(hb1.cell (p:=⟨g,1,none⟩) hgl).trans c1,AC (AD _) hb1⟩)
    (first|(go_at_call 77;refine(Re HSX.out HQ.out (AD _)).mono ?_;rintro e w2 ⟨rfl,hb1⟩))
   have HB2:=AA (AC (AD X) hb1);have HX02:Hid (w2.heap[b0]?=some (.cells #[.string ⟨#[]⟩,.int .i64 0,.int .i64 0] 48 (0,0))):=AA (by rw[HB2.out.block b0 (Array.getElem?_eq_some_iff.1 HX0.out).1];exact HX0.out);have HX12:Hid (w2.heap[b1]?=some (.cells #[.string ⟨s.toArray⟩,.int .i64 n,.int .i64 q] 48 (0,0))):=AA (by rw[HB2.out.block b1 (Array.getElem?_eq_some_iff.1 HXB.out).1];exact HXB.out);obtain⟨l1,d0,d1,d2, -, -, -⟩:=EX HX12.out;obtain⟨l0,z0,z1,z2,e0,e1,e2⟩:=EX HX02.out;clear hb1 c0 c1;go_wp2_with fail
   have h3:=Xi HX02.out (.string ⟨s.toArray⟩) (.int .i64 n) (.int .i64 q);have hk3:=Gt (w:=w2) (b:=b0) (.string ⟨s.toArray⟩) (.int .i64 n) (.int .i64 q);have HKD:=AA (AT HKX.out HB2.out);have HSD:=AA (HSX.out.on HB2.out);generalize((w2.setCell ⟨b0,0,none⟩ (.string ⟨s.toArray⟩)).setCell ⟨b0,1,none⟩ (.int .i64 n)).setCell ⟨b0,2,none⟩ (.int .i64 q)=W3 at *;obtain⟨_,y0,y1,y2, -, -, -⟩:=EX h3;refine bodyPost_ret (v:=.tuple #[.agg #[.string ⟨s.toArray⟩,.int .i64 n,.int .i64 q],.int .i64 0]) (by simp[results,Tryz.results181,go_sem,y0,y1,y2]) rfl ?_;rw[HR.out,if_neg (by rw[HQ.out];simp)];have HK:=Fg HKD.out hk3 hbw
   obtain⟨q',hq'⟩:=HSD.out.blk;exact⟨HK,rfl,HH.out.put HK (hq'.off hk3 hgb) HSD.out.il⟩
  |true=>
   have hj:=Bl hq;have HQ:=AA hq;have HI:Hid (j+1<=M.length):=AA (by omega);clear hq fz;go_region_held3 (fun w'=>w'.cell? ⟨g,0,none⟩=some lv/\w'.cell? ⟨g,1,none⟩=some (.int .i64 j)/\Below X.heap.size X w')
    (first|exact⟨c0,c1,Below.refl _ _⟩|exact⟨c0,c1,AD _⟩|exact⟨(hb1.cell (p:=⟨g,0,none⟩) hgl).trans c0,(hb1.cell (p:=⟨g,1,none⟩) hgl).trans c1,AC (AD _) hb1⟩)
    (first|(go_at_call 77;refine(Re HSX.out HQ.out (AD _)).mono ?_;rintro e w2 ⟨rfl,hb1⟩))
   have HB2:=AA (AC (AD X) hb1);replace HX0:Hid (w2.heap[b0]?=some (.cells #[.string ⟨#[]⟩,.int .i64 0,.int .i64 0] 48 (0,0))):=AA (by rw[HB2.out.block b0 (Array.getElem?_eq_some_iff.1 HX0.out).1];exact HX0.out);replace HXB:Hid (w2.heap[b1]?=some (.cells #[.string ⟨s.toArray⟩,.int .i64 n,.int .i64 q] 48 (0,0))):=AA (by rw[HB2.out.block b1 (Array.getElem?_eq_some_iff.1 HXB.out).1];exact HXB.out);replace HKX:=AA (AT HKX.out HB2.out);replace HSX:=AA (HSX.out.on HB2.out);clear hb1 c0 c1 HB2 hgl;obtain⟨pl1,hbk⟩:=HSX.out.blk;obtain⟨hgl,c0,c1, -, -, -, -, -, -, -,fz⟩:=hbk.cells;have f1:=fz 1
   have hw1:IntKind.i64.wrap ((j:Int)+1)=(j:Int)+1:=IntWalk.i64_in _ (by omega);clear hbk fz;generalize w2=X at *;go_wp2_with fail
   have HSY:Hid (S5 M B g lv (j+1) p (X.setCell ⟨g,1,none⟩ (.int .i64 ((j:Int)+1)))):=AA (HSX.out.set1 HI.out);have hkY:AG (fun k=>k=g) X (X.setCell ⟨g,1,none⟩ (.int .i64 ((j:Int)+1))):=AG.set;generalize X.setCell ⟨g,1,none⟩ (.int .i64 ((j:Int)+1))=Y at *;have HKY:=AA (Ag HKX.out hkY);replace HX0:=AA (UQ hkY HX0.out (fun e=>hgb e.symm));replace HXB:=AA (UQ hkY HXB.out (fun e=>hgb1 e.symm));obtain⟨pl2,hbk⟩:=HSY.out.blk;obtain⟨hgl2,c0,c1, -, -, -, -, -, -, -,fz⟩:=hbk.cells;have f1:=fz 1;obtain⟨l1,d0,d1,d2,m0,m1,m2⟩:=EX HXB.out;obtain⟨l0,z0,z1,z2,e0,e1,e2⟩:=EX HX0.out
   have hi0:(0:Int)<=(j:Int)+1:=by omega
   have htn:((j:Int)+1).toNat=j+1:=by omega
   clear hkY hbk fz hj;by_cases hlt:j+1<M.length
   ·obtain⟨t,ht⟩:∃t,M[j+1]?=some t:=⟨M[j+1],List.getElem?_eq_getElem hlt⟩
    obtain⟨tb,tc,rfl,hc,htb,t0,_,t2,_⟩:=HSY.out.tok ht;have HD:Hid (decide (M.length<=j+1)=false):=AA (by simp;omega);have hi1:(j:Int)+1<(M.length:Int):=by omega
    by_cases hk:t.kind=2
    ·have hk1:(t.kind != 2)=false:=by simp[hk]
     have HNO:Hid (numAt M (j+1)=some t.n):=AA (by unfold numAt;rw[ht];simp[hk]);clear ht
     go_quiet (first|(go_at_call 78;refine Calls.quiet_of (Nq (HSY.out.on (AM _ _)) HD.out)))
     have hw2:IntKind.i64.wrap ((j:Int)+1+1)=(j:Int)+1+1:=IntWalk.i64_in _ (by omega);have hne1:¬b1=g:=fun e=>hgb1 e.symm
     have hne2':¬b0=b1:=fun e=>hb10 e.symm
     have HI2:Hid (j+2<=M.length):=AA (by omega);have HHS:=AA HSY.out;clear HI HD;go_wp2_with fail
     go_region
     go_wp2_with fail
     have hkZ:AG (fun k=>k=b1) Y ((Y.drewN (nq+1)).setCell ⟨b1,1,none⟩ (.int .i64 t.n)):=Cd (AM Y (nq+1)) AG.set;have HZ0:=AA (hkZ.block b0 l0 hne2');obtain⟨pz,hpz⟩:=HHS.out.blk;have HZG:=AA (hpz.off hkZ hgb1);have HKZ:=AA (Fg HKY.out hkZ hbw1);clear hkZ hpz;generalize(Y.drewN (nq+1)).setCell ⟨b1,1,none⟩ (.int .i64 t.n)=Z at *;have hb2:Bf (Z.setCell ⟨g,1,none⟩ (.int .i64 ((j:Int)+1+1))) g (.slice (some ⟨tb,0,none⟩) M.length tc) ((j+2:Nat):Int) p pz:=Af HZG.out;have hk2:AG (fun k=>k=g) Z (Z.setCell ⟨g,1,none⟩ (.int .i64 ((j:Int)+1+1))):=AG.set
     have hz0:Z.heap[b0]?=some (.cells #[.string ⟨#[]⟩,.int .i64 0,.int .i64 0] 48 (0,0)):=by rw[HZ0.out];exact HX0.out
     have hx0:=UQ hk2 hz0 (fun e=>hgb e.symm);have HK2:=AA (Ag HKZ.out hk2);have HB2:=AA hb2;clear hb2 hk2 hz0;generalize Z.setCell ⟨g,1,none⟩ (.int .i64 ((j:Int)+1+1))=Z2 at *;have h3:=Xi hx0 (.string ⟨s.toArray⟩) (.int .i64 t.n) (.int .i64 q);have hk3:=Gt (w:=Z2) (b:=b0) (.string ⟨s.toArray⟩) (.int .i64 t.n) (.int .i64 q);generalize((Z2.setCell ⟨b0,0,none⟩ (.string ⟨s.toArray⟩)).setCell ⟨b0,1,none⟩ (.int .i64 t.n)).setCell ⟨b0,2,none⟩ (.int .i64 q)=W3 at *;obtain⟨_,y0,y1,y2, -, -, -⟩:=EX h3
     refine bodyPost_ret (v:=.tuple #[.agg #[.string ⟨s.toArray⟩,.int .i64 t.n,.int .i64 q],.int .i64 0]) (by simp[results,Tryz.results181,go_sem,y0,y1,y2]) rfl ?_;rw[HR.out,if_pos HQ.out,HNO.out];have HK:=Fg HK2.out hk3 hbw;exact⟨HK,rfl,HH.out.put HK (HB2.out.off hk3 hgb) HI2.out⟩
    ·have hk1:(t.kind != 2)=true:=by simp[hk]
     have HNO:Hid (numAt M (j+1)=none):=AA (by unfold numAt;rw[ht];simp[hk]);clear ht hk;obtain⟨er,her,hne⟩:∃er:Int,(if j+1<M.length then 5 else 6)=er/\er≠0:=⟨_,rfl,by split<;>decide⟩
     have HR2:Hid (GW true M i=.bad er (AN M (j+1:Nat))):=AA (by rw[HR.out,if_pos HQ.out,HNO.out];show badR M (j+1) 5=_;unfold badR;rw[her]);have HE:=AA her;have HNE:=AA hne;clear her hne
     go_quiet (first|(go_at_call 78;refine Calls.quiet_of (Nq (HSY.out.on (AM _ _)) HD.out)))
     go_wp2_with fail
     go_region_with (first|(go_at_call 79;refine(LN (HSY.out.on (AC (AM Y nq) (AD _)))).mono ?_;rw[HE.out];rintro e w5 ⟨rfl,hs5,hb5,hk5⟩;obtain⟨_,d0',d1',d2', -, -, -⟩:=EX (UQ hk5 (b:=b1) (w:=(Y.drewN nq).drew) HXB.out (fun e=>hgb1 e.symm));obtain⟨_,z0',z1',z2',e0',e1',e2'⟩:=EX (UQ hk5 (b:=b0) (w:=(Y.drewN nq).drew) HX0.out (fun e=>hgb e.symm))))
     all_goals
      have HX05:=AA (UQ hk5 (b:=b0) (w:=(Y.drewN nq).drew) HX0.out (fun e=>hgb e.symm));have HK5:=AA (Ag (AT HKY.out (AC (AM Y nq) (AD _))) hk5);have HB5:=AA hb5;clear hs5 hb5 hk5;go_wp2_with fail
      have h3:=Xi HX05.out (.string ⟨s.toArray⟩) (.int .i64 n) (.int .i64 q);have hk3:=Gt (w:=w5) (b:=b0) (.string ⟨s.toArray⟩) (.int .i64 n) (.int .i64 q);generalize((w5.setCell ⟨b0,0,none⟩ (.string ⟨s.toArray⟩)).setCell ⟨b0,1,none⟩ (.int .i64 n)).setCell ⟨b0,2,none⟩ (.int .i64 q)=W3 at *;obtain⟨_,y0,y1,y2, -, -, -⟩:=EX h3;refine bodyPost_ret (v:=.tuple #[.agg #[.string ⟨s.toArray⟩,.int .i64 n,.int .i64 q],.int .i64 er]) (by simp[results,Tryz.results181,go_sem,y0,y1,y2]) rfl ?_;rw[HR2.out];exact⟨Fg HK5.out hk3 hbw,⟨_,_,_,rfl⟩,HNE.out,_,HB5.out.off hk3 hgb⟩
   ·have HD:Hid (decide (M.length<=j+1)=true):=AA (by simp;omega);have HNO:Hid (numAt M (j+1)=none):=AA (by unfold numAt;rw[List.getElem?_eq_none (by omega)]);obtain⟨er,her,hne⟩:∃er:Int,(if j+1<M.length then 5 else 6)=er/\er≠0:=⟨_,rfl,by split<;>decide⟩
    have HR2:Hid (GW true M i=.bad er (AN M (j+1:Nat))):=AA (by rw[HR.out,if_pos HQ.out,HNO.out];show badR M (j+1) 5=_;unfold badR;rw[her]);have HE:=AA her;have HNE:=AA hne;clear her hne
    go_quiet (first|(go_at_call 78;refine Calls.quiet_of (Nq (HSY.out.on (AM _ _)) HD.out)))
    go_wp2_with fail
    go_region_with (first|(go_at_call 79;refine(LN (HSY.out.on (AC (AM Y nq) (AD _)))).mono ?_;rw[HE.out];rintro e w5 ⟨rfl,hs5,hb5,hk5⟩;obtain⟨_,d0',d1',d2', -, -, -⟩:=EX (UQ hk5 (b:=b1) (w:=(Y.drewN nq).drew) HXB.out (fun e=>hgb1 e.symm));obtain⟨_,z0',z1',z2',e0',e1',e2'⟩:=EX (UQ hk5 (b:=b0) (w:=(Y.drewN nq).drew) HX0.out (fun e=>hgb e.symm))))
    all_goals
     have HX05:=AA (UQ hk5 (b:=b0) (w:=(Y.drewN nq).drew) HX0.out (fun e=>hgb e.symm));have HK5:=AA (Ag (AT HKY.out (AC (AM Y nq) (AD _))) hk5);have HB5:=AA hb5;clear hs5 hb5 hk5;go_wp2_with fail
     have h3:=Xi HX05.out (.string ⟨s.toArray⟩) (.int .i64 n) (.int .i64 q);have hk3:=Gt (w:=w5) (b:=b0) (.string ⟨s.toArray⟩) (.int .i64 n) (.int .i64 q);generalize((w5.setCell ⟨b0,0,none⟩ (.string ⟨s.toArray⟩)).setCell ⟨b0,1,none⟩ (.int .i64 n)).setCell ⟨b0,2,none⟩ (.int .i64 q)=W3 at *;obtain⟨_,y0,y1,y2, -, -, -⟩:=EX h3;refine bodyPost_ret (v:=.tuple #[.agg #[.string ⟨s.toArray⟩,.int .i64 n,.int .i64 q],.int .i64 er]) (by simp[results,Tryz.results181,go_sem,y0,y1,y2]) rfl ?_;rw[HR2.out];exact⟨Fg HK5.out hk3 hbw,⟨_,_,_,rfl⟩,HNE.out,_,HB5.out.off hk3 hgb⟩
end
end Go.Proofs.YthfkpalfopdmhaaGreatDoor
