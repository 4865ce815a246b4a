/- Texts of the walk, packed. -/
import Derived.Test.YthfkpalfopdmhaaGreatDoorW33
import Derived.Test.YthfkpalfopdmhaaGreatDoorW29
import Derived.Test.YthfkpalfopdmhaaGreatDoorW00
namespace Go.Proofs.YthfkpalfopdmhaaGreatDoor
open Go.RowKit
def QGI {α:Type} (acc:List α):RS (List α)->RS (List α)
 |.ok l j=>.ok (acc++l) j
 |.bad e q=>.bad e q
theorem Su {num:Bool} {M:List Tok}:∀(f i:Nat) (l:List Cel) (j:Nat),Be num M f i=some (.ok l j)->l.length+i<=j:=by
 intro f
 induction f with
 |zero=>intro i l j h;simp[Be]at h
 |succ f ih=>
  intro i l j h;unfold Be at h;rcases RS.obind_some h with⟨c,k,h1,h2⟩|⟨e,q,h1,h2⟩
  ·have a:=IX num M i;rw[Option.some.inj h1]at a;have a1:=a.1;split at h2
   ·rcases RS.obind_some h2 with⟨r,k2,h3,h4⟩|⟨e,q,h3,h4⟩
    ·have:=ih _ _ _ h3;simp only[Option.some.injEq,RS.ok.injEq]at h4;obtain⟨rfl,rfl⟩:=h4;simp only[List.length_cons];omega
    ·cases h4
   ·rcases RS.obind_some h2 with⟨_,k2,h3,h4⟩|⟨e,q,h3,h4⟩
    ·have am:=Ab M k [59];rw[Option.some.inj h3]at am;have am1:=am.1;simp only[Option.some.injEq,RS.ok.injEq]at h4;obtain⟨rfl,rfl⟩:=h4;simp only[List.length_cons,List.length_nil];omega
    ·cases h4
  ·cases h2
theorem Bw.keepG {P:Nat->Prop} {w w':World} {B:Nat} {v:Value} {l:List Cel} (h:Bw w B v l) (hk:AG P w w') (hP:∀q,v.ownBlock=some q->¬P q):Bw w' B v l:=AO h hk hP
theorem CS.keepG {P:Nat->Prop} {w w':World} {B:Nat} {v:Value} {l:List (List UInt8)} (h:CS w B v l) (hk:AG P w w') (hP:∀q,v.ownBlock=some q->¬P q):CS w' B v l:=AO h hk hP
theorem alloc_at {w:World} {o:Obj} {k:Nat} (hk:w.heap.size=k):(w.alloc o).heap[k]?=some o:=by subst hk;exact heap_alloc_new w o
theorem Nr:(Tryz.prog.info? 48).map (fun i=>(i.zero,i.size,i.bytes))=some (some (.agg #[.string ⟨#[]⟩,.int .i64 0,.int .i64 0]),3,32):=by kernel_rfl
theorem PU:(Tryz.prog.info? 9).map (fun i=>(i.zero,i.size,i.bytes))=some (some (.string ⟨#[]⟩),1,16):=by kernel_rfl
theorem Ns (c:Cel):∀u∈Am c,u.oneCell'=true:=by
 intro u hu;simp[Am]at hu;rcases hu with rfl|rfl|rfl<;>rfl
theorem PV (s:List UInt8):∀u∈[strV s],u.oneCell'=true:=by
 intro u hu;simp at hu;subst hu;rfl
theorem Et {w w':World} {g:Nat} {lv:Value} {j q:Int} {p:Pv} {P:Nat->Prop} (h:Bf w g lv j p q) (k:AG P w w') (hP:¬P g):Bf w' g lv j p q:=by unfold Bf;rw[k.block g h.lt hP];exact h
theorem Q6 {w w1 w2:World} {g T m n:Nat} {v:Value} {xs:List Value} (hk:AG (fun k=>k=g) w w1) (hown:w1.ownsRow w.heap.size T m v n xs) (hg:w1.grownBy w2 v.ownBlock):AG (fun k=>k=g) w w2:=
 hk.trans (AG.grown hg) (fun _ _ h=>h) (fun k hk e=>by have:=(AI hown k e).1;omega)
def QCd (M:List Tok) (B g:Nat) (lv:Value) (p:Pv) (r:RS (List Cel)) (w:World) (e:Ending) (w':World):Prop:=
 ∃v l er,e=.returned (.tuple #[v,.int .i64 er])/\Bw w' w.heap.size v l/\l.length<=10000/\AG (fun k=>k=g) w w'/\match r with
 |.ok a j=>er=0/\l=a/\S5 M B g lv j p w'
 |.bad e2 pl=>er=e2/\er≠0/\∃i:Int,Bf w' g lv i p pl
section
variable {M:List Tok} {B g i:Nat} {lv:Value} {p:Pv} {w:World}
set_option maxRecDepth 100000 in
set_option maxHeartbeats 8000000 in
theorem Q7 {F:Nat} (eg:Enters F) {num:Bool} (hF:∀j w',S5 M B g lv j p w'->Calls Tryz.prog F #[.pointer (some ⟨g,0,none⟩)] w' (UP M B g lv p (GW num M j) w')) (h:S5 M B g lv i p w) (hi:i<M.length) {f:Nat} {r:RS (List Cel)} (hr:Be num M f (i+1)=some r):
  Calls Tryz.prog 180 #[.pointer (some ⟨g,0,none⟩),.func (.func F) #[] #[]] w (QCd M B g lv p r w):=by
 obtain⟨i0,hi0,hz0,hz1,hz2⟩:=info_parts Nr;have HZ:=AA (show Tryz.prog.info? 48=some i0/\i0.zero=some (.agg #[.string ⟨#[]⟩,.int .i64 0,.int .i64 0])/\i0.size=3/\i0.bytes=32 from⟨hi0,hz0,hz1,hz2⟩);have HF:=AA hF;have HH:=AA h;have HG:=AA eg;have HR:=AA hr;have HL:=AA hi;clear hi0 hz0 hz1 hz2 hF h hr hi eg;go_enter Tryz.func180,Tryz.ntmps180;go_wp2_with fail
 go_loopw [6] (fun v wr=>∃(k:Nat) (acc:List Cel) (f':Nat) (rr:RS (List Cel)),S5 M B g lv k p wr/\Bw wr w.heap.size v acc/\AG (fun q=>q=g) w wr/\k<M.length/\acc.length<=k/\Be num M f' (k+1)=some rr/\QGI acc rr=r)
  (fun _ wr=>M.length-(intOf (BM g 1 wr)).toNat)
 case atStart=>exact⟨i,[],f,r,HH.out,Hj _ _,AG.refl _ _,HL.out,Nat.zero_le _,HR.out,by cases r<;>rfl⟩
 case round=>
  obtain⟨k,acc,f',rr,hs,ho,hk,hkl,hal,hf,hlink⟩:=hrel;have HO:=AA ho;have HK:=AA hk;have HLK:=AA hlink;have HSR:=AA hs;obtain⟨q0,hb0⟩:=hs.blk;obtain⟨hgl,c0,c1, -, -, -, -, -, -, -,fz⟩:=hb0.cells;have HME:Hid (intOf (BM g 1 wr)=k):=AA (by rw[DZ c1];rfl);have f1:=fz 1;have hlen:=hs.len;have hw1:IntKind.i64.wrap ((k:Int)+1)=(k:Int)+1:=IntWalk.i64_in _ (by omega);have HKL:=AA hkl;have HAL:=AA hal;cases f' with
  |zero=>simp[Be]at hf
  |succ f'=>
  unfold Be at hf;have HFF:=AA hf;obtain⟨A,cc,hv, -, -, -⟩:=AS ho;subst hv;clear hs ho hk hkl hal hf hlink hb0 fz;go_wp2_with fail
  have HS1:Hid (S5 M B g lv (k+1) p (wr.setCell ⟨g,1,none⟩ (.int .i64 ((k:Int)+1)))):=AA (HSR.out.set1 (by have:=HKL.out;omega));have HK1:Hid (AG (fun q=>q=g) wr (wr.setCell ⟨g,1,none⟩ (.int .i64 ((k:Int)+1)))):=AA AG.set;generalize wr.setCell ⟨g,1,none⟩ (.int .i64 ((k:Int)+1))=w1 at *;clear c0 c1 f1 hw1 hgl;have HC:=AA (HF.out _ _ HS1.out);have eg:=HG.out;unfold Enters at eg;go_wp2_with fail
  rw[eg];clear eg;go_wp2_with fail
  refine HC.out.mono ?_;intro e w2 hp;obtain⟨hk2,hp⟩:=hp;have HK2:=AA (Ag HK1.out hk2);have HO2:=AA (AO HO.out HK2.out (fun q hq e=>by
   have h1:=(AI HO.out q hq).1;have h2:=HH.out.lt;omega))
  have HKW:=AA (Ag HK.out HK2.out);clear hk2;rcases RS.obind_some HFF.out with⟨c,j,h1,h2⟩|⟨er,pl,h1,h2⟩
  ·obtain h1:=Option.some.inj h1
   skip
   rw[h1]at hp;obtain⟨rfl,hs2⟩:=hp;have aj:=IX num M (k+1);rw[h1]at aj;have aj1:=aj.1;have aj2:=aj.2;have HS2:=AA hs2;have HF2:=AA h2;have hne0:((0:Int) != 0)=false:=by decide
   clear h1 h2 hs2;obtain⟨cn,ck,cp⟩:=c;go_wp2_with (at_builtin;refine wpList_append_own _ rfl (.tmp 25) (.tmp 27) 23 rfl w.heap.size 48 i0 (.agg #[.string ⟨#[]⟩,.int .i64 0,.int .i64 0]) 3 32 Tryz.underlying23 HZ.out.1 HZ.out.2.1 HZ.out.2.2.1 HZ.out.2.2.2 rfl (by decide) _ acc.length (acc.flatMap Am) rfl ?dO ⟨w2.heap.size+1,0,none⟩ 1 1 (Am ⟨cn,ck,cp⟩) (by rfl) (by rfl) ?d1 ?d2 ?d3 ?d4 ?d5 ?_)
   case dO=>exact AO HO2.out (AG.of (P:=fun _=>False) (((Below.refl w2.heap.size w2).alloc (Nat.le_refl _) _).alloc (by simp) _)) (fun _ _=>id)
   case d1=>exact World.news_of_block (cs:=(Am ⟨cn,ck,cp⟩).toArray) (alloc_at (by simp))
   case d2=>exact Ns _
   case d3=>have:=HAL.out;unfold maxLen;omega
   case d4=>have:=HAL.out;omega
   case d5=>have:=HKW.out.size;simp;omega
   intro v5 w5 hown5 hgrow5 _;have hkA:AG (fun q=>q=g) w ((w2.alloc (.cells #[.string ⟨cn.toArray⟩,.int .i64 ck,.int .i64 cp] 48)).alloc (.cells #[.string ⟨cn.toArray⟩,.int .i64 ck,.int .i64 cp] 48)):=AT HKW.out (((Below.refl w2.heap.size w2).alloc (Nat.le_refl _) _).alloc (by simp) _);have hoA:((w2.alloc (.cells #[.string ⟨cn.toArray⟩,.int .i64 ck,.int .i64 cp] 48)).alloc (.cells #[.string ⟨cn.toArray⟩,.int .i64 ck,.int .i64 cp] 48)).ownsRow w.heap.size 48 3 (.slice A acc.length cc) acc.length (acc.flatMap Am):=AO HO2.out (AG.of (P:=fun _=>False) (((Below.refl w2.heap.size w2).alloc (Nat.le_refl _) _).alloc (by simp) _)) (fun _ _=>id)
   have hk5:AG (fun q=>q=g) w w5:=Q6 hkA hoA hgrow5;have HS5:Hid (S5 M B g lv j p w5):=AA (by
    obtain⟨q2,hq2⟩:=HS2.out.blk;refine HH.out.put hk5 (Et (hq2.on (((Below.refl w2.heap.size w2).alloc (Nat.le_refl _) _).alloc (by simp) _)) (AG.grown hgrow5) (fun e=>?_)) HS2.out.il;have:=(AI hoA g e).1;have:=HH.out.lt;omega)
   have HO5:Hid (Bw w5 w.heap.size v5 (acc++[⟨cn,ck,cp⟩])):=AA (by
    unfold Bw;rw[List.length_append];simpa using hown5)
   have HK5:=AA hk5;obtain⟨A5,n5,c5,rfl⟩:∃A n c,v5=.slice A n c:=by
    obtain⟨A,c,hv,_⟩:=AS hown5;exact⟨A,_,c,hv⟩
   clear hkA hoA hk5 hown5 hgrow5;go_wp2_with fail
   obtain⟨q5,hb5⟩:=HS5.out.blk;obtain⟨hgl,c0,c1, -, -, -, -, -, -, -, -⟩:=hb5.cells;clear hb5;cases hq:isB M j [44]with
   |true=>
    have HQ:=AA hq;have hjl:=Bl hq;have h3:=HF2.out;rw[if_pos hq]at h3;clear hq;go_region_held3 (fun w'=>w'.cell? ⟨g,0,none⟩=some lv/\w'.cell? ⟨g,1,none⟩=some (.int .i64 j)/\Below w5.heap.size w5 w')
     (first|exact⟨c0,c1,Below.refl _ _⟩|exact⟨c0,c1,AD _⟩|exact⟨(hb1.cell (p:=⟨g,0,none⟩) hgl).trans c0,(hb1.cell (p:=⟨g,1,none⟩) hgl).trans c1,AC (AD _) hb1⟩)
     (first|(go_at_call 77;refine(Re HS5.out HQ.out (AD _)).mono ?_;rintro e w6 ⟨rfl,hb1⟩))
    have HB6:=AA (AC (AD w5) hb1);clear hb1 c0 c1;have HREL:Hid (∃rr2,Be num M f' (j+1)=some rr2/\(QGI (acc++[⟨cn,ck,cp⟩]) rr2=r)):=AA (by
     rcases RS.obind_some h3 with⟨l2,k2,h4,h5⟩|⟨er,pl,h4,h5⟩
     ·refine⟨_,h4,?_⟩;rw[<-HLK.out,<-Option.some.inj h5];simp[QGI,List.append_assoc]
     ·refine⟨_,h4,?_⟩;rw[<-HLK.out,h5];rfl)
    clear h3;go_wp2_with fail
    go_roundw;case rel=>
     obtain⟨rr2,h6,h7⟩:=HREL.out;exact⟨j,acc++[⟨cn,ck,cp⟩],f',rr2,HS5.out.on HB6.out,HO5.out.on HB6.out,AT HK5.out HB6.out,hjl,by rw[List.length_append];simp;have:=HAL.out;omega,h6,h7⟩
    case measure=>
     have h8:intOf (BM g 1 w6)=j:=by
      obtain⟨q6,hb6⟩:=(HS5.out.on HB6.out).blk;rw[DZ hb6.cells.c1];rfl
     rw[h8,HME.out];have:=HKL.out;omega
   |false=>
    have HQ:=AA hq;have h3:=HF2.out;rw[if_neg (by rw[hq];simp)]at h3;have H3:=AA h3;clear hq h3;go_region_held3 (fun w'=>w'.cell? ⟨g,0,none⟩=some lv/\w'.cell? ⟨g,1,none⟩=some (.int .i64 j)/\Below w5.heap.size w5 w')
     (first|exact⟨c0,c1,Below.refl _ _⟩|exact⟨c0,c1,AD _⟩|exact⟨(hb1.cell (p:=⟨g,0,none⟩) hgl).trans c0,(hb1.cell (p:=⟨g,1,none⟩) hgl).trans c1,AC (AD _) hb1⟩)
     (first|(go_at_call 77;refine(Re HS5.out HQ.out (AD _)).mono ?_;rintro e w6 ⟨rfl,hb1⟩))
    have HB6:=AA (AC (AD w5) hb1);clear hb1 c0 c1;have HSG:=AA (Ya (HS5.out.on HB6.out) [59]);go_wp2_with fail
    refine HSG.out.mono ?_;intro e w7 hp7;obtain⟨hk7,hp7⟩:=hp7;have HK7:=AA (Ag (AT HK5.out HB6.out) hk7);have HO7:=AA ((HO5.out.on HB6.out).keepG hk7 (fun q hq e=>by
     have h1:=(AI HO5.out q hq).1;have h2:=HH.out.lt;omega))
    have HA7:Hid ((acc++[(⟨cn,ck,cp⟩:Cel)]).length<=10000):=AA (by rw[List.length_append];simp;have:=HAL.out;have:=HKL.out;have:=HH.out.len;omega);cases hm:Bo M j [59]with
    |ok u j2=>
     rw[hm]at hp7;obtain⟨rfl,hs7⟩:=hp7;have HS7:=AA hs7;have HRR:Hid (r=.ok (acc++[⟨cn,ck,cp⟩]) j2):=AA (by
      have h3:=H3.out;rw[hm]at h3;rw[<-HLK.out,<-Option.some.inj h3];rfl)
     clear hm hk7 hs7;go_wp2_with fail
     refine bodyPost_ret (v:=.tuple #[.slice A5 n5 c5,.int .i64 0]) (by simp[results,Tryz.results180,go_sem]) rfl ?_;rw[HRR.out];exact⟨_,_,_,rfl,HO7.out,HA7.out,HK7.out,rfl,rfl,HS7.out⟩
    |bad er pl=>
     rw[hm]at hp7;obtain⟨rfl,hne,i7,hb7⟩:=hp7;have HNE:=AA hne;have HB7:=AA hb7;have HRR:Hid (r=.bad er pl):=AA (by
      have h3:=H3.out;rw[hm]at h3;rw[<-HLK.out,<-Option.some.inj h3];rfl)
     clear hm hk7 hne hb7;go_wp2_with fail
     refine bodyPost_ret (v:=.tuple #[.slice A5 n5 c5,.int .i64 er]) (by simp[results,Tryz.results180,go_sem]) rfl ?_;rw[HRR.out];exact⟨_,_,_,rfl,HO7.out,HA7.out,HK7.out,rfl,HNE.out,i7,HB7.out⟩
  ·obtain h1:=Option.some.inj h1
   skip
   rw[h1]at hp;obtain⟨⟨s0,n0,m0,rfl⟩,hne,i2,hb2⟩:=hp;have hne2:(er != 0)=true:=by simp[hne]
   have HNE:=AA hne;have HB2:=AA hb2;have HRR:Hid (r=.bad er pl):=AA (by rw[<-HLK.out,h2];rfl);clear h1 h2 hne hb2;go_wp2_with fail
   refine bodyPost_ret (v:=.tuple #[.slice none 0 0,.int .i64 er]) (by simp[results,Tryz.results180,go_sem]) rfl ?_;rw[HRR.out];exact⟨_,[],_,rfl,Hj _ _,by simp,AT HKW.out ((Below.refl w2.heap.size w2).alloc (Nat.le_refl _) _),rfl,HNE.out,i2,HB2.out.on ((Below.refl w2.heap.size w2).alloc (Nat.le_refl _) _)⟩
end
end Go.Proofs.YthfkpalfopdmhaaGreatDoor
