/- Texts of the walk, packed. -/
import Derived.Test.YthfkpalfopdmhaaGreatDoorW27
import Derived.Test.YthfkpalfopdmhaaGreatDoorW00
namespace Go.Proofs.YthfkpalfopdmhaaGreatDoor
open Go.RowKit
section
variable {M:List Tok} {B g i:Nat} {lv:Value} {p:Pv} {w:World}
def V2 (M:List Tok) (B g:Nat) (lv:Value) (p:Pv) (r:RS (List UInt8)) (w:World) (e:Ending) (w':World):Prop:=
 AG (fun k=>k=g) w w'/\match r with
 |.ok s j=>e=.returned (.tuple #[.string ⟨s.toArray⟩,.int .i64 0])/\S5 M B g lv j p w'
 |.bad er pl=>e=.returned (.tuple #[.string ⟨#[]⟩,.int .i64 er])/\er≠0/\∃i:Int,Bf w' g lv i p pl
theorem Cd {P:Nat->Prop} {w1 w2:World} (h:Below w.heap.size w w1) (k:AG P w1 w2):AG P w w2:=(AG.of (P:=P) h).trans k (fun _ _ h=>h) (fun _ _ h=>h)
theorem AT {P:Nat->Prop} {w1 w2:World} (h:AG P w w1) (k:Below w1.heap.size w1 w2):AG P w w2:=h.trans (AG.of (P:=P) k) (fun _ _ h=>h) (fun _ _ h=>h)
theorem Ag {P:Nat->Prop} {w1 w2:World} (h:AG P w w1) (k:AG P w1 w2):AG P w w2:=h.trans k (fun _ _ h=>h) (fun _ _ h=>h)
theorem Bf.on {w1:World} {j q:Int} (h:Bf w g lv j p q) (hb:Below w.heap.size w w1):Bf w1 g lv j p q:=by unfold Bf;rw[hb.block g h.lt];exact h
def CE (M:List Tok):Prop:=∀t∈M,nameB t.text=true->t.kind=1
theorem QGG (hw:CE M) {t:Tok} (ht:M[i]?=some t) (h:nameB t.text=true):Bd M i=.ok t.text (i+1):=by
 unfold Bd nameAt;rw[ht];simp only[hw t (List.mem_of_getElem? ht) h,h,and_self,if_true]
theorem QGy {t:Tok} (ht:M[i]?=some t) (h:nameB t.text=false):Bd M i=.bad (if i<M.length then 5 else 6) (AN M i):=by
 unfold Bd nameAt;rw[ht];simp[h,badR]
theorem QGH (h:¬i<M.length):Bd M i=.bad (if i<M.length then 5 else 6) (AN M i):=by
 unfold Bd nameAt;rw[List.getElem?_eq_none (by omega)];rfl
theorem Ss {w1 w2:World} {a y:Value} {b:Nat} (hg:g<w.heap.size) (hb0:b<w.heap.size) (k:w1.cell? ⟨g,0,none⟩=some a/\w1.cell? ⟨g,1,none⟩=some (.int .i64 i)/\w1.cell? ⟨b,i*4+1,none⟩=some y/\Below w.heap.size w w1) (hb:Below w1.heap.size w1 w2):w2.cell? ⟨g,0,none⟩=some a/\w2.cell? ⟨g,1,none⟩=some (.int .i64 i)/\w2.cell? ⟨b,i*4+1,none⟩=some y/\Below w.heap.size w w2:=by
 obtain⟨k0,k1,k2,kb⟩:=k;have q:∀e j,e<w.heap.size->w2.cell? ⟨e,j,none⟩=w1.cell? ⟨e,j,none⟩:=fun e j he=>hb.cell (p:=⟨e,j,none⟩) (Nat.lt_of_lt_of_le he kb.size)
 exact⟨by rw[q g _ hg,k0],by rw[q g _ hg,k1],by rw[q b _ hb0,k2],AC kb hb⟩
set_option maxRecDepth 100000 in
set_option maxHeartbeats 8000000 in
theorem name5 (h:S5 M B g lv i p w) (hwd:CE M):Calls Tryz.prog 183 #[.pointer (some ⟨g,0,none⟩)] w (V2 M B g lv p (Bd M i) w):=by
 have HS:=AA h;obtain⟨pl,hb⟩:=h.blk;obtain⟨hgl,c0,c1, -, -, -, -, -, -, -, -⟩:=hb.cells;have hlen:=h.len;by_cases hi:i<M.length
 ·obtain⟨t,ht⟩:∃t,M[i]?=some t:=⟨M[i],List.getElem?_eq_getElem hi⟩
  obtain⟨b,c,rfl,hc,hb0,_,t1,_,_⟩:=h.tok ht;have hsm:=h.small t (List.mem_of_getElem? ht);have HD:Hid (decide (M.length<=i)=false):=AA (by simp;omega);cases hk:nameB t.text with
  |true=>
   have HN:=AA (QGG hwd ht hk);have HK:=AA hk;have HI:Hid (i+1<=M.length):=AA (by omega);have hi0:(0:Int)<=(i:Int):=by omega
   have hi1:(i:Int)<(M.length:Int):=by omega
   clear h hb ht hk;rw[HN.out];go_enter Tryz.func183,Tryz.ntmps183;go_wp2_with fail
   go_region_held3 (fun w'=>w'.cell? ⟨g,0,none⟩=some (.slice (some ⟨b,0,none⟩) M.length c)/\w'.cell? ⟨g,1,none⟩=some (.int .i64 i)/\w'.cell? ⟨b,i*4+1,none⟩=some (.string ⟨t.text.toArray⟩)/\Below w.heap.size w w')
    (first|exact⟨c0,c1,t1,Below.refl _ _⟩|exact⟨c0,c1,t1,AD _⟩|exact Ss (w1:=w.drew) hgl hb0 ⟨c0,c1,t1,AD _⟩ hb1|exact Ss hgl hb0 (Ss (w1:=w.drew) hgl hb0 ⟨c0,c1,t1,AD _⟩ hb1) hb2)
    (
     first
     |(go_at_call 78;refine(MV (HS.out.on (AD _)) HD.out).mono ?_;rintro e w1 ⟨rfl,hb1⟩)
     |(go_at_call 103;refine(name_any ⟨t.text.toArray⟩ _ (by show t.text.length<=_;omega)).mono ?_;rw[show(ByteArray.mk t.text.toArray).data.toList=t.text from by simp,HK.out];rintro e w2 ⟨rfl,hb2⟩))
   have HB2:=AA (AC (AC (AD w) hb1) hb2);have HS2:=AA (HS.out.on HB2.out);obtain⟨pl2,hbk⟩:=HS2.out.blk;obtain⟨hgl2,d0,d1, -, -, -, -, -, -, -,fz⟩:=hbk.cells;have f1:=fz 1;have d3:w2.cell? ⟨b,i*4+1,none⟩=some (.string ⟨t.text.toArray⟩):=(HB2.out.cell (p:=⟨b,i*4+1,none⟩) hb0).trans t1;have hb02:b<w2.heap.size:=Nat.lt_of_lt_of_le hb0 HB2.out.size;have hw1:IntKind.i64.wrap ((i:Int)+1)=(i:Int)+1:=IntWalk.i64_in _ (by omega);clear hb1 hb2 c0 c1 t1 hbk fz;go_wp2_with fail
   go_quiet (fail)
   have HS3:=AA (HS2.out.on (AM w2 nq));have HB3:=AA (AC HB2.out (AM w2 nq));obtain⟨pl3,hbk⟩:=HS3.out.blk;obtain⟨hgl3,d0,d1, -, -, -, -, -, -, -,fz⟩:=hbk.cells;have f1:=fz 1;clear hbk fz;go_wp2_with fail
   refine bodyPost_ret (v:=.tuple #[.string ⟨t.text.toArray⟩,.int .i64 0]) (by simp[results,Tryz.results183,go_sem]) rfl ?_;exact⟨Cd HB3.out AG.set,rfl,HS3.out.set1 HI.out⟩
  |false=>
   obtain⟨er,her,hne⟩:∃er:Int,(if i<M.length then 5 else 6)=er/\er≠0:=⟨_,rfl,by split<;>decide⟩
   have HN:Hid (Bd M i=.bad er (AN M i)):=AA (by rw[QGy ht hk,her]);have HE:=AA her;have HNE:=AA hne;have HK:=AA hk;have hi0:(0:Int)<=(i:Int):=by omega
   have hi1:(i:Int)<(M.length:Int):=by omega
   clear h hb ht hk her hne;rw[HN.out];go_enter Tryz.func183,Tryz.ntmps183;go_wp2_with fail
   go_region_held3 (fun w'=>w'.cell? ⟨g,0,none⟩=some (.slice (some ⟨b,0,none⟩) M.length c)/\w'.cell? ⟨g,1,none⟩=some (.int .i64 i)/\w'.cell? ⟨b,i*4+1,none⟩=some (.string ⟨t.text.toArray⟩)/\Below w.heap.size w w')
    (first|exact⟨c0,c1,t1,Below.refl _ _⟩|exact⟨c0,c1,t1,AD _⟩|exact Ss (w1:=w.drew) hgl hb0 ⟨c0,c1,t1,AD _⟩ hb1|exact Ss hgl hb0 (Ss (w1:=w.drew) hgl hb0 ⟨c0,c1,t1,AD _⟩ hb1) hb2)
    (
     first
     |(go_at_call 78;refine(MV (HS.out.on (AD _)) HD.out).mono ?_;rintro e w1 ⟨rfl,hb1⟩)
     |(go_at_call 103;refine(name_any ⟨t.text.toArray⟩ _ (by show t.text.length<=_;omega)).mono ?_;rw[show(ByteArray.mk t.text.toArray).data.toList=t.text from by simp,HK.out];rintro e w2 ⟨rfl,hb2⟩))
   have HB2:=AA (AC (AC (AD w) hb1) hb2);have HS2:=AA (HS.out.on HB2.out);clear hb1 hb2 c0 c1 t1;go_wp2_with fail
   refine(LN HS2.out).mono ?_;rw[HE.out];rintro e w3 ⟨rfl,hs3,hb3,hk3⟩;have HK3:=AA (Cd HB2.out hk3);have HB3:=AA hb3;clear hs3 hk3 hb3;go_wp2_with fail
   refine bodyPost_ret (v:=.tuple #[.string ⟨#[]⟩,.int .i64 er]) (by simp[results,Tryz.results183,go_sem]) rfl ?_;exact⟨HK3.out,rfl,HNE.out,i,HB3.out⟩
 ·obtain⟨er,her,hne⟩:∃er:Int,(if i<M.length then 5 else 6)=er/\er≠0:=⟨_,rfl,by split<;>decide⟩
  have HN:Hid (Bd M i=.bad er (AN M i)):=AA (by rw[QGH hi,her]);have HE:=AA her;have HNE:=AA hne;have HD:Hid (decide (M.length<=i)=true):=AA (by simp;omega);clear h hb her hne;rw[HN.out];go_enter Tryz.func183,Tryz.ntmps183;go_wp2_with fail
  go_quiet (first|(go_at_call 78;refine Calls.quiet_of (Nq (HS.out.on (AM _ _)) HD.out)))
  have HB2:=AA (AM w nq);have HS2:=AA (HS.out.on HB2.out);clear c0 c1;go_wp2_with fail
  refine(LN HS2.out).mono ?_;rw[HE.out];rintro e w3 ⟨rfl,hs3,hb3,hk3⟩;have HK3:=AA (Cd HB2.out hk3);have HB3:=AA hb3;clear hs3 hk3 hb3;go_wp2_with fail
  refine bodyPost_ret (v:=.tuple #[.string ⟨#[]⟩,.int .i64 er]) (by simp[results,Tryz.results183,go_sem]) rfl ?_;exact⟨HK3.out,rfl,HNE.out,i,HB3.out⟩
def UP (M:List Tok) (B g:Nat) (lv:Value) (p:Pv) (r:RS Cel) (w:World) (e:Ending) (w':World):Prop:=
 AG (fun k=>k=g) w w'/\match r with
 |.ok c j=>e=.returned (.tuple #[.agg #[.string ⟨c.name.toArray⟩,.int .i64 c.n,.int .i64 c.pl],.int .i64 0])/\S5 M B g lv j p w'
 |.bad er pl=>(∃(s:ByteArray) (n q:Int),e=.returned (.tuple #[.agg #[.string s,.int .i64 n,.int .i64 q],.int .i64 er]))/\er≠0/\∃i:Int,Bf w' g lv i p pl
theorem Q2 (M:List Tok) (i:Nat):GW false M i=(Bd M i).bind fun s j=>.ok ⟨s,0,AN M i⟩ j:=by
 unfold GW;simp
theorem Xi {b:Nat} {T:TypeId} {a0 a1 a2:Value} (h:w.heap[b]?=some (.cells #[a0,a1,a2] T (0,0))) (x0 x1 x2:Value):(((w.setCell ⟨b,0,none⟩ x0).setCell ⟨b,1,none⟩ x1).setCell ⟨b,2,none⟩ x2).heap[b]?=some (.cells #[x0,x1,x2] T (0,0)):=Af (Af (Af h))
theorem Gt {b:Nat} (x0 x1 x2:Value):AG (fun k=>k=b) w (((w.setCell ⟨b,0,none⟩ x0).setCell ⟨b,1,none⟩ x1).setCell ⟨b,2,none⟩ x2):=Ag (Ag AG.set AG.set) AG.set
theorem Fg {w1 w2:World} {b:Nat} (h:AG (fun k=>k=g) w w1) (k:AG (fun k=>k=b) w1 w2) (hb:w.heap.size<=b):AG (fun k=>k=g) w w2:=h.trans k (fun _ _ h=>h) (fun k hk e=>by omega)
theorem Bf.off {w1:World} {b:Nat} {j q:Int} (h:Bf w g lv j p q) (k:AG (fun k=>k=b) w w1) (hb:¬g=b):Bf w1 g lv j p q:=by unfold Bf;rw[k.block g h.lt hb];exact h
theorem Of {b:Nat} {T:TypeId} {cs:Array Value} {lv:Value} {j q:Int} (h:Bf w g lv j p q) (hb:w.heap[b]?=some (.cells cs T (0,0))) (hT:T≠58):¬b=g:=by
 rintro rfl;unfold Bf at h;rw[h]at hb;simp at hb;exact hT hb.2.symm
set_option maxRecDepth 100000 in
set_option maxHeartbeats 8000000 in
theorem QFg (h:S5 M B g lv i p w) (hwd:CE M):Calls Tryz.prog 182 #[.pointer (some ⟨g,0,none⟩)] w (UP M B g lv p (GW false M i) w):=by
 have HB0:Hid (Below w.heap.size w (w.alloc (.cells #[.string ⟨#[]⟩,.int .i64 0,.int .i64 0] 48))):=AA ((Below.refl _ _).alloc (Nat.le_refl _) _);have HS:=AA (h.on HB0.out);have HW:=AA hwd;have HH:=AA h;have HC:=AA (Q2 M i);clear h hwd;go_enter Tryz.func182,Tryz.ntmps182;go_wp2_with fail
 obtain⟨b0,hb0⟩:∃b0,w.heap.size=b0:=⟨_,rfl⟩
 have hlt:b0<(w.alloc (.cells #[.string ⟨#[]⟩,.int .i64 0,.int .i64 0] 48)).heap.size:=by simp[hb0]
 have hblk:=heap_alloc_new w (.cells #[.string ⟨#[]⟩,.int .i64 0,.int .i64 0] 48);rw[hb0]at hblk⊢;have HBZ:=AA hb0;clear hb0;generalize w.alloc (.cells #[.string ⟨#[]⟩,.int .i64 0,.int .i64 0] 48)=W at *;refine(Q1 HS.out).mono ?_;rintro e w1 ⟨rfl,hb1⟩;have HS1:=AA (HS.out.on hb1);have HB1:=AA (AC HB0.out hb1);have hlt1:b0<w1.heap.size:=Nat.lt_of_lt_of_le hlt hb1.size;have HX1:Hid (w1.heap[b0]?=some (.cells #[.string ⟨#[]⟩,.int .i64 0,.int .i64 0] 48 (0,0))):=AA (by rw[hb1.block b0 hlt];exact hblk);obtain⟨pl0,hpl0⟩:=HS1.out.blk;have hneg:¬b0=g:=Of hpl0 HX1.out (by decide);clear hb1 hblk hlt hpl0;go_wp2_with fail
 refine(name5 HS1.out HW.out).mono ?_;intro e w2 hp;obtain⟨hk2,hp⟩:=hp;have HX2:Hid (w2.heap[b0]?=some (.cells #[.string ⟨#[]⟩,.int .i64 0,.int .i64 0] 48 (0,0))):=AA (by rw[hk2.block b0 hlt1 hneg];exact HX1.out);have z0:w2.cell? ⟨b0,0,none⟩=some (.string ⟨#[]⟩):=by rw[Lib.cell_of_heap HX2.out];rfl
 have z1:w2.cell? ⟨b0,1,none⟩=some (.int .i64 0):=by rw[Lib.cell_of_heap HX2.out];rfl
 have z2:w2.cell? ⟨b0,2,none⟩=some (.int .i64 0):=by rw[Lib.cell_of_heap HX2.out];rfl
 have fz0:=Lib.frozen_of_heap HX2.out 0;have fz1:=Lib.frozen_of_heap HX2.out 1;have fz2:=Lib.frozen_of_heap HX2.out 2;have HK2:Hid (AG (fun k=>k=g) w w2):=AA (Cd HB1.out hk2);have hbw:w.heap.size<=b0:=by have:=HBZ.out;omega
 have hgb:¬g=b0:=fun e=>hneg e.symm
 cases hn:Bd M i with
 |bad er pl=>
  rw[hn]at hp;obtain⟨rfl,hne,i',hb'⟩:=hp;have HNE:=AA hne;have HB':=AA hb';have HR:Hid (GW false M i=.bad er pl):=AA (by rw[HC.out,hn];rfl);clear hn hk2 hne hb' hlt1;go_wp2_with fail
  have h3:=Xi HX2.out (.string ⟨#[]⟩) (.int .i64 0) (.int .i64 (AN M i));have hk3:=Gt (w:=w2) (b:=b0) (.string ⟨#[]⟩) (.int .i64 0) (.int .i64 (AN M i));generalize((w2.setCell ⟨b0,0,none⟩ (.string ⟨#[]⟩)).setCell ⟨b0,1,none⟩ (.int .i64 0)).setCell ⟨b0,2,none⟩ (.int .i64 (AN M i))=W3 at *;have d0:W3.cell? ⟨b0,0,none⟩=some (.string ⟨#[]⟩):=by rw[Lib.cell_of_heap h3];rfl
  have d1:W3.cell? ⟨b0,1,none⟩=some (.int .i64 0):=by rw[Lib.cell_of_heap h3];rfl
  have d2:W3.cell? ⟨b0,2,none⟩=some (.int .i64 (AN M i)):=by rw[Lib.cell_of_heap h3];rfl
  refine bodyPost_ret (v:=.tuple #[.agg #[.string ⟨#[]⟩,.int .i64 0,.int .i64 (AN M i)],.int .i64 er]) (by simp[results,Tryz.results182,go_sem,d0,d1,d2]) rfl ?_;rw[HR.out];exact⟨Fg HK2.out hk3 hbw,⟨_,_,_,rfl⟩,HNE.out,i',HB'.out.off hk3 hgb⟩
 |ok s j=>
  rw[hn]at hp;obtain⟨rfl,hs2⟩:=hp;have HS2:=AA hs2;have HR:Hid (GW false M i=.ok ⟨s,0,AN M i⟩ j):=AA (by rw[HC.out,hn];rfl);clear hn hk2 hs2 hlt1;go_wp2_with fail
  have h3:=Xi HX2.out (.string ⟨s.toArray⟩) (.int .i64 0) (.int .i64 (AN M i));have hk3:=Gt (w:=w2) (b:=b0) (.string ⟨s.toArray⟩) (.int .i64 0) (.int .i64 (AN M i));generalize((w2.setCell ⟨b0,0,none⟩ (.string ⟨s.toArray⟩)).setCell ⟨b0,1,none⟩ (.int .i64 0)).setCell ⟨b0,2,none⟩ (.int .i64 (AN M i))=W3 at *;have d0:W3.cell? ⟨b0,0,none⟩=some (.string ⟨s.toArray⟩):=by rw[Lib.cell_of_heap h3];rfl
  have d1:W3.cell? ⟨b0,1,none⟩=some (.int .i64 0):=by rw[Lib.cell_of_heap h3];rfl
  have d2:W3.cell? ⟨b0,2,none⟩=some (.int .i64 (AN M i)):=by rw[Lib.cell_of_heap h3];rfl
  refine bodyPost_ret (v:=.tuple #[.agg #[.string ⟨s.toArray⟩,.int .i64 0,.int .i64 (AN M i)],.int .i64 0]) (by simp[results,Tryz.results182,go_sem,d0,d1,d2]) rfl ?_;rw[HR.out];have HK:=Fg HK2.out hk3 hbw;obtain⟨q,hq⟩:=HS2.out.blk;exact⟨HK,rfl,HH.out.put HK (hq.off hk3 hgb) HS2.out.il⟩
end
end Go.Proofs.YthfkpalfopdmhaaGreatDoor
