/- Texts of the walk, packed. -/
import Derived.Test.YthfkpalfopdmhaaGreatDoorW15
import Derived.Deep.RegionHeld3
import Derived.Test.YthfkpalfopdmhaaGreatDoorW00
namespace Go.Proofs.YthfkpalfopdmhaaGreatDoor
open Go.RowKit
section
variable {L:List Tok} {W0:World} {g:Nat} {lv:Value} {i d l m:Nat} {pl:Int} {K:List Sv} {kv:Value} {w:World}
set_option maxHeartbeats 2000000 in
theorem NP (hs:Src L W0 lv) (h:Dc L W0 g lv i d l m pl K kv w) {q:Bool} (hq:decide (L.length<=i)=q):Calls Tryz.prog 278 #[.pointer (some ⟨g,0,none⟩)] w (fun e w'=>e=.returned (.bool q)/\∃n,w'=w.drewN n):=by
 have hgl:=h.lt;have c0:=h.c0;have c1:=h.c1;obtain⟨A,c,rfl,hc,_⟩:=hs.toks;have HQ:=AA hq;clear h hs hq;go_enter Tryz.func278,Tryz.ntmps278;go_wp2_with fail
 go_quiet (fail)
 go_wp2_with fail
 go_ret;exact⟨AH (by rw[<-HQ.out]),_,rfl⟩
set_option maxHeartbeats 2000000 in
theorem Wt (hs:Src L W0 lv) (h:Dc L W0 g lv i d l m pl K kv w):Calls Tryz.prog 278 #[.pointer (some ⟨g,0,none⟩)] w (AK (decide (L.length<=i)) w):=by
 have hgl:=h.lt;have c0:=h.c0;have c1:=h.c1;obtain⟨A,c,rfl,hc,_⟩:=hs.toks;clear h hs;go_enter Tryz.func278,Tryz.ntmps278;go_wp2_with fail
 go_quiet (fail)
 go_wp2_with fail
 go_ret;exact⟨AH (by first|rfl|simp),AM _ _⟩
def YH (L:List Tok) (W0:World) (g:Nat) (lv:Value) (i d l m:Nat) (K:List Sv) (kv:Value) (er pl:Int) (w:World) (e:Ending) (w':World):Prop:=
 e=.returned (.int .i64 er)/\Dc L W0 g lv i d l m pl K kv w'/\AG (fun k=>k=g) w w'
def BM (g j:Nat) (w:World):Value:=(w.cell? ⟨g,j,none⟩).getD (.bool false)
theorem NQ {j:Nat} {v:Value} (h:w.cell? ⟨g,j,none⟩=some v):w.cell? ⟨g,j,none⟩=some (BM g j w):=by unfold BM;rw[h];rfl
theorem O0 {w1 w2:World} {a b:Value} (hg:g<w.heap.size) (k:w1.cell? ⟨g,0,none⟩=some a/\w1.cell? ⟨g,1,none⟩=some b/\w1.cell? ⟨g,6,none⟩=some (BM g 6 w1)/\w1.frozen? ⟨g,6,none⟩=false/\w.heap.size<=w1.heap.size) (hb:Below w1.heap.size w1 w2):w2.cell? ⟨g,0,none⟩=some a/\w2.cell? ⟨g,1,none⟩=some b/\w2.cell? ⟨g,6,none⟩=some (BM g 6 w2)/\w2.frozen? ⟨g,6,none⟩=false/\w.heap.size<=w2.heap.size:=by
 obtain⟨k0,k1,k2,k3,kb⟩:=k;have hl:g<w1.heap.size:=Nat.lt_of_lt_of_le hg kb;have q:∀j,w2.cell? ⟨g,j,none⟩=w1.cell? ⟨g,j,none⟩:=fun j=>hb.cell (p:=⟨g,j,none⟩) hl
 exact⟨by rw[q,k0],by rw[q,k1],NQ ((q 6).trans k2),(hb.frozen (p:=⟨g,6,none⟩) hl).trans k3,Nat.le_trans kb hb.size⟩
theorem Ze {w1:World} {a b x:Value} (k:w1.cell? ⟨g,0,none⟩=some a/\w1.cell? ⟨g,1,none⟩=some b/\w1.cell? ⟨g,6,none⟩=some (BM g 6 w1)/\w1.frozen? ⟨g,6,none⟩=false/\w.heap.size<=w1.heap.size):(w1.setCell ⟨g,6,none⟩ x).cell? ⟨g,0,none⟩=some a/\(w1.setCell ⟨g,6,none⟩ x).cell? ⟨g,1,none⟩=some b/\(w1.setCell ⟨g,6,none⟩ x).cell? ⟨g,6,none⟩=some (BM g 6 (w1.setCell ⟨g,6,none⟩ x))/\(w1.setCell ⟨g,6,none⟩ x).frozen? ⟨g,6,none⟩=false/\w.heap.size<=(w1.setCell ⟨g,6,none⟩ x).heap.size:=by
 obtain⟨k0,k1,k2,k3,kb⟩:=k;exact⟨(World.cell?_setCell_other _ _ _ _ (by simp)).trans k0,(World.cell?_setCell_other _ _ _ _ (by simp)).trans k1,NQ (World.cell?_setCell_same _ _ _ k2),by simpa using k3,by simpa using kb⟩
set_option maxRecDepth 100000 in
set_option maxHeartbeats 4000000 in
theorem YI (hs:Src L W0 lv) (h:Dc L W0 g lv i d l m pl K kv w) (er:Int):Calls Tryz.prog 261 #[.pointer (some ⟨g,0,none⟩),.int .i64 er] w (YH L W0 g lv i d l m K kv er (AN L i) w):=by
 have hgl:=h.lt;have c0:=h.c0;have c1:=h.c1;have HS:=AA h;have HC:=AA hs;have c6:=h.c6;have f6:=h.fz 6;clear h hs;go_enter Tryz.func261,Tryz.ntmps261;go_wp2_with fail
 go_region_held3 (fun w'=>w'.cell? ⟨g,0,none⟩=some lv/\w'.cell? ⟨g,1,none⟩=some (.int .i64 i)/\w'.cell? ⟨g,6,none⟩=some (BM g 6 w')/\w'.frozen? ⟨g,6,none⟩=false/\w.heap.size<=w'.heap.size)
  (first|exact⟨c0,c1,NQ c6,f6,Nat.le_refl _⟩|exact O0 (w1:=w.drew) hgl ⟨c0,c1,NQ c6,f6,Nat.le_refl _⟩ hb1|exact Ze (O0 (w1:=w.drew) hgl ⟨c0,c1,NQ c6,f6,Nat.le_refl _⟩ hb1))
  (first|(go_at_call 187;refine(IP lv L i _ ((HS.out.on (AD _)).toks HC.out) HC.out.len HC.out.small).mono ?_;rintro e w1 ⟨rfl,hb1⟩))
 have HS1:=AA ((HS.out.on (AC (AD w) hb1)).set6 (AN L i));have HK:=AA ((AG.of (P:=fun k=>k=g) (AC (AD w) hb1)).trans (AG.set (j:=6) (v:=.int .i64 (AN L i))) (fun _ _ h=>h) (fun _ _ h=>h));go_wp2_with fail
 go_ret;exact⟨rfl,HS1.out,HK.out⟩
set_option maxRecDepth 100000 in
set_option maxHeartbeats 4000000 in
theorem OO (hs:Src L W0 lv) (h:Dc L W0 g lv i d l m pl K kv w):Calls Tryz.prog 260 #[.pointer (some ⟨g,0,none⟩)] w (YH L W0 g lv i d l m K kv (if i<L.length then 5 else 6) (AN L i) w):=by
 have HS:=AA h;have HC:=AA hs;clear h hs;by_cases hi:i<L.length
 ·rw[if_pos hi];have HD:Hid (decide (L.length<=i)=false):=AA (by simp;omega);clear hi;go_enter Tryz.func260,Tryz.ntmps260;go_wp2_with fail
  refine(Wt HC.out HS.out).mono ?_;rw[HD.out];rintro e w1 ⟨rfl,hb1⟩;have HS1:=AA (HS.out.on hb1);have HB:=AA hb1;clear hb1;go_wp2_with fail
  refine(YI HC.out HS1.out 5).mono ?_;rintro e w2 ⟨rfl,hs2,hk2⟩;have HS2:=AA hs2;have HK:=AA ((AG.of (P:=fun k=>k=g) HB.out).trans hk2 (fun _ _ h=>h) (fun _ _ h=>h));clear hs2 hk2;go_wp2_with fail
  go_ret;exact⟨rfl,HS2.out,HK.out⟩
 ·rw[if_neg hi];have HD:Hid (decide (L.length<=i)=true):=AA (by simp;omega);clear hi;go_enter Tryz.func260,Tryz.ntmps260;go_wp2_with fail
  refine(Wt HC.out HS.out).mono ?_;rw[HD.out];rintro e w1 ⟨rfl,hb1⟩;have HS1:=AA (HS.out.on hb1);have HB:=AA hb1;clear hb1;go_wp2_with fail
  refine(YI HC.out HS1.out 6).mono ?_;rintro e w2 ⟨rfl,hs2,hk2⟩;have HS2:=AA hs2;have HK:=AA ((AG.of (P:=fun k=>k=g) HB.out).trans hk2 (fun _ _ h=>h) (fun _ _ h=>h));clear hs2 hk2;go_wp2_with fail
  go_ret;exact⟨rfl,HS2.out,HK.out⟩
def DU (L:List Tok) (i:Nat):Bool:=(nameAt L i).isSome
theorem Zf (h:¬i<L.length):DU L i=false:=by
 unfold DU nameAt;rw[List.getElem?_eq_none (by omega)];rfl
theorem Wu {t:Tok} (h:L[i]?=some t) (hk:¬t.kind=1):DU L i=false:=by
 unfold DU nameAt;rw[h];simp[hk]
theorem Wv {t:Tok} (h:L[i]?=some t) (hk:t.kind=1):DU L i=nameB t.text:=by
 unfold DU nameAt;rw[h];simp only[hk,true_and];cases nameB t.text<;>rfl
theorem Dc.tok (h:Dc L W0 g lv i d l m pl K kv w) (hs:Src L W0 lv) {t:Tok} (ht:L[i]?=some t):∃b c,lv=.slice (some ⟨b,0,none⟩) L.length c/\L.length<=c/\b<w.heap.size/\b<W0.heap.size/\w.cell? ⟨b,i*4,none⟩=some (.int .i64 t.kind)/\w.cell? ⟨b,i*4+1,none⟩=some (.string ⟨t.text.toArray⟩)/\w.cell? ⟨b,i*4+2,none⟩=some (.int .i64 t.n)/\w.cell? ⟨b,i*4+3,none⟩=some (.int .i64 t.pl):=by
 obtain⟨A,c,hv,hc,hr⟩:=hs.toks;obtain⟨b,hA,hb,h0,h1,h2,h3⟩:=hr i t ht;have e:∀j,w.cell? ⟨b,j,none⟩=W0.cell? ⟨b,j,none⟩:=fun j=>h.low.cell (p:=⟨b,j,none⟩) hb
 exact⟨b,c,by rw[hv,hA],hc,Nat.lt_of_lt_of_le hb h.low.size,hb,by rw[e];exact h0,by rw[e];exact h1,by rw[e];exact h2,by rw[e];exact h3⟩
theorem OP {w1 w2:World} {a:Value} {x y:Value} {b:Nat} (hg:g<w.heap.size) (hb0:b<w.heap.size) (k:w1.cell? ⟨g,0,none⟩=some a/\w1.cell? ⟨g,1,none⟩=some (.int .i64 i)/\w1.cell? ⟨b,i*4,none⟩=some x/\w1.cell? ⟨b,i*4+1,none⟩=some y/\Below w.heap.size w w1) (hb:Below w1.heap.size w1 w2):w2.cell? ⟨g,0,none⟩=some a/\w2.cell? ⟨g,1,none⟩=some (.int .i64 i)/\w2.cell? ⟨b,i*4,none⟩=some x/\w2.cell? ⟨b,i*4+1,none⟩=some y/\Below w.heap.size w w2:=by
 obtain⟨k0,k1,k2,k3,kb⟩:=k;have q:∀e j,e<w.heap.size->w2.cell? ⟨e,j,none⟩=w1.cell? ⟨e,j,none⟩:=fun e j he=>hb.cell (p:=⟨e,j,none⟩) (Nat.lt_of_lt_of_le he kb.size)
 exact⟨by rw[q g _ hg,k0],by rw[q g _ hg,k1],by rw[q b _ hb0,k2],by rw[q b _ hb0,k3],AC kb hb⟩
set_option maxRecDepth 100000 in
set_option maxHeartbeats 4000000 in
theorem Tm (hs:Src L W0 lv) (h:Dc L W0 g lv i d l m pl K kv w):Calls Tryz.prog 286 #[.pointer (some ⟨g,0,none⟩)] w (AK (DU L i) w):=by
 have HS:=AA h;have HC:=AA hs;have hgl:=h.lt;have c0:=h.c0;have c1:=h.c1;by_cases hi:i<L.length
 ·obtain⟨t,ht⟩:∃t,L[i]?=some t:=⟨L[i],List.getElem?_eq_getElem hi⟩
  obtain⟨b,c,rfl,hc,hb0,_,t0,t1,_,_⟩:=h.tok hs ht;have hsm:=hs.small t (List.mem_of_getElem? ht);have HD:Hid (decide (L.length<=i)=false):=AA (by simp;omega);have hl:=hs.len;by_cases hk:t.kind=1
  ·have HN:=AA (Wv ht hk);have hk1:(t.kind==1)=true:=by simp[hk]
   clear h hs ht;rw[HN.out];go_enter Tryz.func286,Tryz.ntmps286;go_wp2_with fail
   go_region_held3 (fun w'=>w'.cell? ⟨g,0,none⟩=some (.slice (some ⟨b,0,none⟩) L.length c)/\w'.cell? ⟨g,1,none⟩=some (.int .i64 i)/\w'.cell? ⟨b,i*4,none⟩=some (.int .i64 t.kind)/\w'.cell? ⟨b,i*4+1,none⟩=some (.string ⟨t.text.toArray⟩)/\Below w.heap.size w w')
    (first|exact⟨c0,c1,t0,t1,Below.refl _ _⟩|exact⟨c0,c1,t0,t1,AD _⟩|exact OP (w1:=w.drew) hgl hb0 ⟨c0,c1,t0,t1,AD _⟩ hb1|exact OP hgl hb0 (OP (w1:=w.drew) hgl hb0 ⟨c0,c1,t0,t1,AD _⟩ hb1) hb2)
    (
     first
     |(go_at_call 278;refine(Wt HC.out (HS.out.on (AD _))).mono ?_;rw[HD.out];rintro e w1 ⟨rfl,hb1⟩)
     |(go_at_call 103;refine(name_any ⟨t.text.toArray⟩ _ (by show t.text.length<=_;omega)).mono ?_;rintro e w2 ⟨rfl,hb2⟩))
   go_wp2_with fail
   go_ret;exact⟨AH (by simp),AC (AC (AD w) hb1) hb2⟩
  ·have HN:=AA (Wu ht hk);have hk1:(t.kind==1)=false:=by simp[hk]
   clear h hs ht hk;rw[HN.out];go_enter Tryz.func286,Tryz.ntmps286;go_wp2_with fail
   go_quiet (first|(go_at_call 278;refine Calls.quiet_of (NP HC.out (HS.out.on (AM _ _)) HD.out)))
   go_wp2_with fail
   go_ret;exact⟨rfl,AM _ _⟩
 ·have HN:=AA (Zf (L:=L) hi);have HD:Hid (decide (L.length<=i)=true):=AA (by simp;omega);clear h hs;rw[HN.out];go_enter Tryz.func286,Tryz.ntmps286;go_wp2_with fail
  go_quiet (first|(go_at_call 278;refine Calls.quiet_of (NP HC.out (HS.out.on (AM _ _)) HD.out)))
  go_wp2_with fail
  go_ret;exact⟨rfl,AM _ _⟩
end
end Go.Proofs.YthfkpalfopdmhaaGreatDoor
