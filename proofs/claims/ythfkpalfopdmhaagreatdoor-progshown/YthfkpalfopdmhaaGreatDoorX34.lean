/- Texts of the walk, packed. -/
import Derived.Test.YthfkpalfopdmhaaGreatDoorX33
import Derived.Test.YthfkpalfopdmhaaGreatDoorX32
import Derived.Test.YthfkpalfopdmhaaGreatDoorX00
namespace Go.Proofs.YthfkpalfopdmhaaGreatDoor
open Go.RowKit
def QE3 {α:Type} (acc:List α):RS (List α)→RS (List α)
 |.ok l j=>.ok (acc++l) j
 |.bad e q=>.bad e q
theorem Ru {num:Bool} {M:List Tok}:∀(f i:Nat) (l:List Cel) (j:Nat),Bc num M f i=some (.ok l j)→l.length+i≤j:=by
 intro f
 induction f with
 |zero=>intro i l j h;simp[Bc]at h
 |succ f ih=>
  intro i l j h;unfold Bc at h;rcases RS.obind_some h with⟨c,k,h1,h2⟩|⟨e,q,h1,h2⟩
  ·have a:=Gz num M i;rw[Option.some.inj h1]at a;have a1:=a.1;split at h2
   ·rcases RS.obind_some h2 with⟨r,k2,h3,h4⟩|⟨e,q,h3,h4⟩
    ·have:=ih _ _ _ h3;simp only[Option.some.injEq,RS.ok.injEq]at h4;obtain⟨rfl,rfl⟩:=h4;simp only[List.length_cons];omega
    ·cases h4
   ·rcases RS.obind_some h2 with⟨_,k2,h3,h4⟩|⟨e,q,h3,h4⟩
    ·have am:=Ae M k [59];rw[Option.some.inj h3]at am;have am1:=am.1;simp only[Option.some.injEq,RS.ok.injEq]at h4;obtain⟨rfl,rfl⟩:=h4;simp only[List.length_cons,List.length_nil];omega
    ·cases h4
  ·cases h2
theorem CX.keepG {P:Nat→Prop} {w w':World} {B:Nat} {v:Value} {l:List Cel} (h:CX w B v l) (hk:AG P w w') (hP:∀q,v.ownBlock=some q→¬P q):CX w' B v l:=AW h hk hP
theorem C9.keepG {P:Nat→Prop} {w w':World} {B:Nat} {v:Value} {l:List (List UInt8)} (h:C9 w B v l) (hk:AG P w w') (hP:∀q,v.ownBlock=some q→¬P q):C9 w' B v l:=AW h hk hP
theorem alloc_at {w:World} {o:Obj} {k:Nat} (hk:w.heap.size=k):(w.alloc o).heap[k]?=some o:=by subst hk;exact heap_alloc_new w o
theorem On:(Tryz.prog.info? 48).map (fun i=>(i.zero,i.size,i.bytes))=some (some (.agg #[.string ⟨#[]⟩,.int .i64 0,.int .i64 0]),3,32):=by kernel_rfl
theorem TY:(Tryz.prog.info? 9).map (fun i=>(i.zero,i.size,i.bytes))=some (some (.string ⟨#[]⟩),1,16):=by kernel_rfl
theorem Oo (c:Cel):∀u∈Bd c,u.oneCell'=true:=by
 intro u hu;simp[Bd]at hu;rcases hu with rfl|rfl|rfl<;>rfl
theorem Oq (s:List UInt8):∀u∈[MA s],u.oneCell'=true:=by
 intro u hu;simp at hu;subst hu;rfl
theorem Ep {w w':World} {g:Nat} {lv:Value} {j q:Int} {p:Pv} {P:Nat→Prop} (h:Bl w g lv j p q) (k:AG P w w') (hP:¬P g):Bl w' g lv j p q:=by unfold Bl;rw[k.block g h.lt hP];exact h
theorem QU {w w1 w2:World} {g T m n:Nat} {v:Value} {xs:List Value} (hk:AG (fun k=>k=g) w w1) (hown:w1.ownsRow w.heap.size T m v n xs) (hg:w1.grownBy w2 v.ownBlock):AG (fun k=>k=g) w w2:=
 hk.trans (AG.grown hg) (fun _ _ h=>h) (fun k hk e=>by have:=(AM hown k e).1;omega)
def QBY (M:List Tok) (B g:Nat) (lv:Value) (p:Pv) (r:RS (List Cel)) (w:World) (e:Ending) (w':World):Prop:=
 ∃v l er,e=.returned (.tuple #[v,.int .i64 er])∧CX w' w.heap.size v l∧l.length≤10000∧AG (fun k=>k=g) w w'∧match r with
 |.ok a j=>er=0∧l=a∧S5 M B g lv j p w'
 |.bad e2 pl=>er=e2∧er≠0∧∃i:Int,Bl w' g lv i p pl
section
variable {M:List Tok} {B g i:Nat} {lv:Value} {p:Pv} {w:World}
set_option maxRecDepth 100000 in
set_option maxHeartbeats 8000000 in
theorem QV {F:Nat} (eg:Enters F) {num:Bool} (hF:∀j w',S5 M B g lv j p w'→Calls Tryz.prog F #[.pointer (some ⟨g,0,none⟩)] w' (TW M B g lv p (Fj num M j) w')) (h:S5 M B g lv i p w) (hi:i<M.length) {f:Nat} {r:RS (List Cel)} (hr:Bc num M f (i+1)=some r):
  Calls Tryz.prog 180 #[.pointer (some ⟨g,0,none⟩),.func (.func F) #[] #[]] w (QBY M B g lv p r w):=by
 obtain⟨i0,hi0,hz0,hz1,hz2⟩:=info_parts On;have HZ:=AA (show Tryz.prog.info? 48=some i0∧i0.zero=some (.agg #[.string ⟨#[]⟩,.int .i64 0,.int .i64 0])∧i0.size=3∧i0.bytes=32 from⟨hi0,hz0,hz1,hz2⟩);have HF:=AA hF;have HH:=AA h;have HG:=AA eg;have HR:=AA hr;have HL:=AA hi;clear hi0 hz0 hz1 hz2 hF h hr hi eg;go_enter Tryz.func180,Tryz.ntmps180;go_wp2_with fail
 go_loopw [6] (fun v wr=>∃(k:Nat) (acc:List Cel) (f':Nat) (rr:RS (List Cel)),S5 M B g lv k p wr∧CX wr w.heap.size v acc∧AG (fun q=>q=g) w wr∧k<M.length∧acc.length≤k∧Bc num M f' (k+1)=some rr∧QE3 acc rr=r)
  (fun _ wr=>M.length-(intOf (BO g 1 wr)).toNat)
 case atStart=>exact⟨i,[],f,r,HH.out,Ht _ _,AG.refl _ _,HL.out,Nat.zero_le _,HR.out,by cases r<;>rfl⟩
 case round=>
  obtain⟨k,acc,f',rr,hs,ho,hk,hkl,hal,hf,hlink⟩:=hrel;have HO:=AA ho;have HK:=AA hk;have HLK:=AA hlink;have HSR:=AA hs;obtain⟨q0,hb0⟩:=hs.blk;obtain⟨hgl,c0,c1, -, -, -, -, -, -, -,fz⟩:=hb0.cells;have HME:Hid (intOf (BO g 1 wr)=k):=AA (by rw[Dj c1];rfl);have f1:=fz 1;have hlen:=hs.len;have hw1:IntKind.i64.wrap ((k:Int)+1)=(k:Int)+1:=IntWalk.i64_in _ (by omega);have HKL:=AA hkl;have HAL:=AA hal;cases f' with
  |zero=>simp[Bc]at hf
  |succ f'=>
  unfold Bc at hf;have HFF:=AA hf;obtain⟨A,cc,hv, -, -, -⟩:=AX ho;subst hv;clear hs ho hk hkl hal hf hlink hb0 fz;go_wp2_with fail
  have HS1:Hid (S5 M B g lv (k+1) p (wr.setCell ⟨g,1,none⟩ (.int .i64 ((k:Int)+1)))):=AA (HSR.out.set1 (by have:=HKL.out;omega));have HK1:Hid (AG (fun q=>q=g) wr (wr.setCell ⟨g,1,none⟩ (.int .i64 ((k:Int)+1)))):=AA AG.set;generalize wr.setCell ⟨g,1,none⟩ (.int .i64 ((k:Int)+1))=w1 at *;clear c0 c1 f1 hw1 hgl;have HC:=AA (HF.out _ _ HS1.out);have eg:=HG.out;unfold Enters at eg;go_wp2_with fail
  rw[eg];clear eg;go_wp2_with fail
  refine HC.out.mono ?_;intro e w2 hp;obtain⟨hk2,hp⟩:=hp;have HK2:=AA (Ak HK1.out hk2);have HO2:=AA (AW HO.out HK2.out (fun q hq e=>by
   have h1:=(AM HO.out q hq).1;have h2:=HH.out.lt;omega))
  have HKW:=AA (Ak HK.out HK2.out);clear hk2;rcases RS.obind_some HFF.out with⟨c,j,h1,h2⟩|⟨er,pl,h1,h2⟩
  ·obtain h1:=Option.some.inj h1
   skip
   rw[h1]at hp;obtain⟨rfl,hs2⟩:=hp;have aj:=Gz num M (k+1);rw[h1]at aj;have aj1:=aj.1;have aj2:=aj.2;have HS2:=AA hs2;have HF2:=AA h2;have hne0:((0:Int) != 0)=false:=by decide
   clear h1 h2 hs2;obtain⟨cn,ck,cp⟩:=c;go_wp2_with (at_builtin;refine wpList_append_own _ rfl (.tmp 25) (.tmp 27) 23 rfl w.heap.size 48 i0 (.agg #[.string ⟨#[]⟩,.int .i64 0,.int .i64 0]) 3 32 Tryz.underlying23 HZ.out.1 HZ.out.2.1 HZ.out.2.2.1 HZ.out.2.2.2 rfl (by decide) _ acc.length (acc.flatMap Bd) rfl ?dO ⟨w2.heap.size+1,0,none⟩ 1 1 (Bd ⟨cn,ck,cp⟩) (by rfl) (by rfl) ?d1 ?d2 ?d3 ?d4 ?d5 ?_)
   case dO=>exact AW HO2.out (AG.of (P:=fun _=>False) (((Below.refl w2.heap.size w2).alloc (Nat.le_refl _) _).alloc (by simp) _)) (fun _ _=>id)
   case d1=>exact World.news_of_block (cs:=(Bd ⟨cn,ck,cp⟩).toArray) (alloc_at (by simp))
   case d2=>exact Oo _
   case d3=>have:=HAL.out;unfold maxLen;omega
   case d4=>have:=HAL.out;omega
   case d5=>have:=HKW.out.size;simp;omega
   intro v5 w5 hown5 hgrow5 _;have hkA:AG (fun q=>q=g) w ((w2.alloc (.cells #[.string ⟨cn.toArray⟩,.int .i64 ck,.int .i64 cp] 48)).alloc (.cells #[.string ⟨cn.toArray⟩,.int .i64 ck,.int .i64 cp] 48)):=Ab HKW.out (((Below.refl w2.heap.size w2).alloc (Nat.le_refl _) _).alloc (by simp) _);have hoA:((w2.alloc (.cells #[.string ⟨cn.toArray⟩,.int .i64 ck,.int .i64 cp] 48)).alloc (.cells #[.string ⟨cn.toArray⟩,.int .i64 ck,.int .i64 cp] 48)).ownsRow w.heap.size 48 3 (.slice A acc.length cc) acc.length (acc.flatMap Bd):=AW HO2.out (AG.of (P:=fun _=>False) (((Below.refl w2.heap.size w2).alloc (Nat.le_refl _) _).alloc (by simp) _)) (fun _ _=>id)
   have hk5:AG (fun q=>q=g) w w5:=QU hkA hoA hgrow5;have HS5:Hid (S5 M B g lv j p w5):=AA (by
    obtain⟨q2,hq2⟩:=HS2.out.blk;refine HH.out.put hk5 (Ep (hq2.on (((Below.refl w2.heap.size w2).alloc (Nat.le_refl _) _).alloc (by simp) _)) (AG.grown hgrow5) (fun e=>?_)) HS2.out.il;have:=(AM hoA g e).1;have:=HH.out.lt;omega)
   have HO5:Hid (CX w5 w.heap.size v5 (acc++[⟨cn,ck,cp⟩])):=AA (by
    unfold CX;rw[List.length_append];simpa using hown5)
   have HK5:=AA hk5;obtain⟨A5,n5,c5,rfl⟩:∃A n c,v5=.slice A n c:=by
    obtain⟨A,c,hv,_⟩:=AX hown5;exact⟨A,_,c,hv⟩
   clear hkA hoA hk5 hown5 hgrow5;go_wp2_with fail
   obtain⟨q5,hb5⟩:=HS5.out.blk;obtain⟨hgl,c0,c1, -, -, -, -, -, -, -, -⟩:=hb5.cells;clear hb5;cases hq:isB M j [44]with
   |true=>
    have HQ:=AA hq;have hjl:=Bt hq;have h3:=HF2.out;rw[if_pos hq]at h3;clear hq;go_region_held3 (fun w'=>w'.cell? ⟨g,0,none⟩=some lv∧w'.cell? ⟨g,1,none⟩=some (.int .i64 j)∧Below w5.heap.size w5 w')
     (first|exact⟨c0,c1,Below.refl _ _⟩|exact⟨c0,c1,AD _⟩|exact⟨(hb1.cell (p:=⟨g,0,none⟩) hgl).trans c0,(hb1.cell (p:=⟨g,1,none⟩) hgl).trans c1,AC (AD _) hb1⟩)
     (first|(go_at_call 77;refine(Qu HS5.out HQ.out (AD _)).mono ?_;rintro e w6 ⟨rfl,hb1⟩))
    have HB6:=AA (AC (AD w5) hb1);clear hb1 c0 c1;have HREL:Hid (∃rr2,Bc num M f' (j+1)=some rr2∧(QE3 (acc++[⟨cn,ck,cp⟩]) rr2=r)):=AA (by
     rcases RS.obind_some h3 with⟨l2,k2,h4,h5⟩|⟨er,pl,h4,h5⟩
     ·refine⟨_,h4,?_⟩;rw[←HLK.out,←Option.some.inj h5];simp[QE3,List.append_assoc]
     ·refine⟨_,h4,?_⟩;rw[←HLK.out,h5];rfl)
    clear h3;go_wp2_with fail
    go_roundw;case rel=>
     obtain⟨rr2,h6,h7⟩:=HREL.out;exact⟨j,acc++[⟨cn,ck,cp⟩],f',rr2,HS5.out.on HB6.out,HO5.out.on HB6.out,Ab HK5.out HB6.out,hjl,by rw[List.length_append];simp;have:=HAL.out;omega,h6,h7⟩
    case measure=>
     have h8:intOf (BO g 1 w6)=j:=by
      obtain⟨q6,hb6⟩:=(HS5.out.on HB6.out).blk;rw[Dj hb6.cells.c1];rfl
     rw[h8,HME.out];have:=HKL.out;omega
   |false=>
    have HQ:=AA hq;have h3:=HF2.out;rw[if_neg (by rw[hq];simp)]at h3;have H3:=AA h3;clear hq h3;go_region_held3 (fun w'=>w'.cell? ⟨g,0,none⟩=some lv∧w'.cell? ⟨g,1,none⟩=some (.int .i64 j)∧Below w5.heap.size w5 w')
     (first|exact⟨c0,c1,Below.refl _ _⟩|exact⟨c0,c1,AD _⟩|exact⟨(hb1.cell (p:=⟨g,0,none⟩) hgl).trans c0,(hb1.cell (p:=⟨g,1,none⟩) hgl).trans c1,AC (AD _) hb1⟩)
     (first|(go_at_call 77;refine(Qu HS5.out HQ.out (AD _)).mono ?_;rintro e w6 ⟨rfl,hb1⟩))
    have HB6:=AA (AC (AD w5) hb1);clear hb1 c0 c1;have HSG:=AA (Xr (HS5.out.on HB6.out) [59]);go_wp2_with fail
    refine HSG.out.mono ?_;intro e w7 hp7;obtain⟨hk7,hp7⟩:=hp7;have HK7:=AA (Ak (Ab HK5.out HB6.out) hk7);have HO7:=AA ((HO5.out.on HB6.out).keepG hk7 (fun q hq e=>by
     have h1:=(AM HO5.out q hq).1;have h2:=HH.out.lt;omega))
    have HA7:Hid ((acc++[(⟨cn,ck,cp⟩:Cel)]).length≤10000):=AA (by rw[List.length_append];simp;have:=HAL.out;have:=HKL.out;have:=HH.out.len;omega);cases hm:Bg M j [59]with
    |ok u j2=>
     rw[hm]at hp7;obtain⟨rfl,hs7⟩:=hp7;have HS7:=AA hs7;have HRR:Hid (r=.ok (acc++[⟨cn,ck,cp⟩]) j2):=AA (by
      have h3:=H3.out;rw[hm]at h3;rw[←HLK.out,←Option.some.inj h3];rfl)
     clear hm hk7 hs7;go_wp2_with fail
     refine bodyPost_ret (v:=.tuple #[.slice A5 n5 c5,.int .i64 0]) (by simp[results,Tryz.results180,go_sem]) rfl ?_;rw[HRR.out];exact⟨_,_,_,rfl,HO7.out,HA7.out,HK7.out,rfl,rfl,HS7.out⟩
    |bad er pl=>
     rw[hm]at hp7;obtain⟨rfl,hne,i7,hb7⟩:=hp7;have HNE:=AA hne;have HB7:=AA hb7;have HRR:Hid (r=.bad er pl):=AA (by
      have h3:=H3.out;rw[hm]at h3;rw[←HLK.out,←Option.some.inj h3];rfl)
     clear hm hk7 hne hb7;go_wp2_with fail
     refine bodyPost_ret (v:=.tuple #[.slice A5 n5 c5,.int .i64 er]) (by simp[results,Tryz.results180,go_sem]) rfl ?_;rw[HRR.out];exact⟨_,_,_,rfl,HO7.out,HA7.out,HK7.out,rfl,HNE.out,i7,HB7.out⟩
  ·obtain h1:=Option.some.inj h1
   skip
   rw[h1]at hp;obtain⟨⟨s0,n0,m0,rfl⟩,hne,i2,hb2⟩:=hp;have hne2:(er != 0)=true:=by simp[hne]
   have HNE:=AA hne;have HB2:=AA hb2;have HRR:Hid (r=.bad er pl):=AA (by rw[←HLK.out,h2];rfl);clear h1 h2 hne hb2;go_wp2_with fail
   refine bodyPost_ret (v:=.tuple #[.slice none 0 0,.int .i64 er]) (by simp[results,Tryz.results180,go_sem]) rfl ?_;rw[HRR.out];exact⟨_,[],_,rfl,Ht _ _,by simp,Ab HKW.out ((Below.refl w2.heap.size w2).alloc (Nat.le_refl _) _),rfl,HNE.out,i2,HB2.out.on ((Below.refl w2.heap.size w2).alloc (Nat.le_refl _) _)⟩
end
end Go.Proofs.YthfkpalfopdmhaaGreatDoor
namespace Go.Proofs.YthfkpalfopdmhaaGreatDoor
open Go.RowKit
def TZ (acc:List (List UInt8)):RS (List Cel)→RS (List (List UInt8))
 |.ok l j=>.ok (acc++l.map (·.name)) j
 |.bad e q=>.bad e q
theorem QBZ {M:List Tok} {i:Nat} {c:Cel} {j:Nat} (h:Fj false M i=.ok c j):BW M i=.ok c.name j∧c.n=0:=by
 rw[QQ]at h;cases hn:BW M i with
 |bad e q=>rw[hn]at h;cases h
 |ok s k=>
  rw[hn]at h;simp only[RS.bind_ok,RS.ok.injEq]at h;obtain⟨rfl,rfl⟩:=h;exact⟨rfl,rfl⟩
theorem Ta {M:List Tok} {i:Nat} {e q:Int} (h:Fj false M i=.bad e q):BW M i=.bad e q:=by
 rw[QQ]at h;cases hn:BW M i with
 |ok s k=>rw[hn]at h;cases h
 |bad e q=>rw[hn]at h;simpa using h
def QBa (M:List Tok) (B g:Nat) (lv:Value) (p:Pv) (r:RS (List (List UInt8))) (w:World) (e:Ending) (w':World):Prop:=
 ∃v l er,e=.returned (.tuple #[v,.int .i64 er])∧C9 w' w.heap.size v l∧l.length≤10000∧AG (fun k=>k=g) w w'∧match r with
 |.ok a j=>er=0∧l=a∧S5 M B g lv j p w'
 |.bad e2 pl=>er=e2∧er≠0∧∃i:Int,Bl w' g lv i p pl
section
variable {M:List Tok} {B g i:Nat} {lv:Value} {p:Pv} {w:World}
set_option maxRecDepth 100000 in
set_option maxHeartbeats 8000000 in
theorem QBb {F:Nat} (eg:Enters F) (hF:∀j w',S5 M B g lv j p w'→Calls Tryz.prog F #[.pointer (some ⟨g,0,none⟩)] w' (VG M B g lv p (BW M j) w')) (h:S5 M B g lv i p w) (hi:i<M.length) {f:Nat} {rc:RS (List Cel)} {r:RS (List (List UInt8))} (hrc:TZ [] rc=r) (hr:Bc false M f (i+1)=some rc):
  Calls Tryz.prog 216 #[.pointer (some ⟨g,0,none⟩),.func (.func F) #[] #[]] w (QBa M B g lv p r w):=by
 obtain⟨i0,hi0,hz0,hz1,hz2⟩:=info_parts TY;have HZ:=AA (show Tryz.prog.info? 9=some i0∧i0.zero=some (.string ⟨#[]⟩)∧i0.size=1∧i0.bytes=16 from⟨hi0,hz0,hz1,hz2⟩);have HF:=AA hF;have HH:=AA h;have HG:=AA eg;have HR:=AA hr;have HRC:=AA hrc;have HL:=AA hi;clear hi0 hz0 hz1 hz2 hF h hr hrc hi eg;go_enter Tryz.func216,Tryz.ntmps216;go_wp2_with fail
 go_loopw [6] (fun v wr=>∃(k:Nat) (acc:List (List UInt8)) (f':Nat) (rr:RS (List Cel)),S5 M B g lv k p wr∧C9 wr w.heap.size v acc∧AG (fun q=>q=g) w wr∧k<M.length∧acc.length≤k∧Bc false M f' (k+1)=some rr∧TZ acc rr=r)
  (fun _ wr=>M.length-(intOf (BO g 1 wr)).toNat)
 case atStart=>exact⟨i,[],f,rc,HH.out,Ky _ _,AG.refl _ _,HL.out,Nat.zero_le _,HR.out,HRC.out⟩
 case round=>
  obtain⟨k,acc,f',rr,hs,ho,hk,hkl,hal,hf,hlink⟩:=hrel;have HO:=AA ho;have HK:=AA hk;have HLK:=AA hlink;have HSR:=AA hs;obtain⟨q0,hb0⟩:=hs.blk;obtain⟨hgl,c0,c1, -, -, -, -, -, -, -,fz⟩:=hb0.cells;have HME:Hid (intOf (BO g 1 wr)=k):=AA (by rw[Dj c1];rfl);have f1:=fz 1;have hlen:=hs.len;have hw1:IntKind.i64.wrap ((k:Int)+1)=(k:Int)+1:=IntWalk.i64_in _ (by omega);have HKL:=AA hkl;have HAL:=AA hal;cases f' with
  |zero=>simp[Bc]at hf
  |succ f'=>
  unfold Bc at hf;have HFF:=AA hf;obtain⟨A,cc,hv, -, -, -⟩:=AX ho;subst hv;clear hs ho hk hkl hal hf hlink hb0 fz;go_wp2_with fail
  have HS1:Hid (S5 M B g lv (k+1) p (wr.setCell ⟨g,1,none⟩ (.int .i64 ((k:Int)+1)))):=AA (HSR.out.set1 (by have:=HKL.out;omega));have HK1:Hid (AG (fun q=>q=g) wr (wr.setCell ⟨g,1,none⟩ (.int .i64 ((k:Int)+1)))):=AA AG.set;generalize wr.setCell ⟨g,1,none⟩ (.int .i64 ((k:Int)+1))=w1 at *;clear c0 c1 f1 hw1 hgl;have HC:=AA (HF.out _ _ HS1.out);have eg:=HG.out;unfold Enters at eg;go_wp2_with fail
  rw[eg];clear eg;go_wp2_with fail
  refine HC.out.mono ?_;intro e w2 hp;obtain⟨hk2,hp⟩:=hp;have HK2:=AA (Ak HK1.out hk2);have HO2:=AA (AW HO.out HK2.out (fun q hq e=>by
   have h1:=(AM HO.out q hq).1;have h2:=HH.out.lt;omega))
  have HKW:=AA (Ak HK.out HK2.out);clear hk2;rcases RS.obind_some HFF.out with⟨c,j,h1,h2⟩|⟨er,pl,h1,h2⟩
  ·obtain h1:=Option.some.inj h1;have h0:=h1;obtain⟨h1,hcn⟩:=QBZ h1;rw[h1]at hp;obtain⟨rfl,hs2⟩:=hp;have aj:=Gz false M (k+1);rw[h0]at aj;have aj1:=aj.1;have aj2:=aj.2;have HS2:=AA hs2;have HF2:=AA h2;have hne0:((0:Int) != 0)=false:=by decide
   clear h1 h2 hs2 h0 hcn;obtain⟨cn,ck,cp⟩:=c;go_wp2_with (at_builtin;refine wpList_append_own _ rfl (.tmp 25) (.tmp 27) 38 rfl w.heap.size 9 i0 (.string ⟨#[]⟩) 1 16 Tryz.underlying38 HZ.out.1 HZ.out.2.1 HZ.out.2.2.1 HZ.out.2.2.2 rfl (by decide) _ acc.length (acc.map MA) rfl ?dO ⟨w2.heap.size,0,none⟩ 1 1 ([MA cn]) (by rfl) (by rfl) ?d1 ?d2 ?d3 ?d4 ?d5 ?_)
   case dO=>exact AW HO2.out (AG.of (P:=fun _=>False) ((Below.refl w2.heap.size w2).alloc (Nat.le_refl _) _)) (fun _ _=>id)
   case d1=>exact World.news_of_block (cs:=([MA cn]).toArray) (alloc_at (by simp))
   case d2=>exact Oq _
   case d3=>have:=HAL.out;unfold maxLen;omega
   case d4=>have:=HAL.out;omega
   case d5=>have:=HKW.out.size;simp;omega
   intro v5 w5 hown5 hgrow5 _;have hkA:AG (fun q=>q=g) w (w2.alloc (.cells #[.string ⟨cn.toArray⟩] 9)):=Ab HKW.out ((Below.refl w2.heap.size w2).alloc (Nat.le_refl _) _);have hoA:(w2.alloc (.cells #[.string ⟨cn.toArray⟩] 9)).ownsRow w.heap.size 9 1 (.slice A acc.length cc) acc.length (acc.map MA):=AW HO2.out (AG.of (P:=fun _=>False) ((Below.refl w2.heap.size w2).alloc (Nat.le_refl _) _)) (fun _ _=>id);have hk5:AG (fun q=>q=g) w w5:=QU hkA hoA hgrow5;have HS5:Hid (S5 M B g lv j p w5):=AA (by
    obtain⟨q2,hq2⟩:=HS2.out.blk;refine HH.out.put hk5 (Ep (hq2.on ((Below.refl w2.heap.size w2).alloc (Nat.le_refl _) _)) (AG.grown hgrow5) (fun e=>?_)) HS2.out.il;have:=(AM hoA g e).1;have:=HH.out.lt;omega)
   have HO5:Hid (C9 w5 w.heap.size v5 (acc++[cn])):=AA (by
    unfold C9;rw[List.length_append];simpa using hown5)
   have HK5:=AA hk5;obtain⟨A5,n5,c5,rfl⟩:∃A n c,v5=.slice A n c:=by
    obtain⟨A,c,hv,_⟩:=AX hown5;exact⟨A,_,c,hv⟩
   clear hkA hoA hk5 hown5 hgrow5;go_wp2_with fail
   obtain⟨q5,hb5⟩:=HS5.out.blk;obtain⟨hgl,c0,c1, -, -, -, -, -, -, -, -⟩:=hb5.cells;clear hb5;cases hq:isB M j [44]with
   |true=>
    have HQ:=AA hq;have hjl:=Bt hq;have h3:=HF2.out;rw[if_pos hq]at h3;clear hq;go_region_held3 (fun w'=>w'.cell? ⟨g,0,none⟩=some lv∧w'.cell? ⟨g,1,none⟩=some (.int .i64 j)∧Below w5.heap.size w5 w')
     (first|exact⟨c0,c1,Below.refl _ _⟩|exact⟨c0,c1,AD _⟩|exact⟨(hb1.cell (p:=⟨g,0,none⟩) hgl).trans c0,(hb1.cell (p:=⟨g,1,none⟩) hgl).trans c1,AC (AD _) hb1⟩)
     (first|(go_at_call 77;refine(Qu HS5.out HQ.out (AD _)).mono ?_;rintro e w6 ⟨rfl,hb1⟩))
    have HB6:=AA (AC (AD w5) hb1);clear hb1 c0 c1;have HREL:Hid (∃rr2,Bc false M f' (j+1)=some rr2∧(TZ (acc++[cn]) rr2=r)):=AA (by
     rcases RS.obind_some h3 with⟨l2,k2,h4,h5⟩|⟨er,pl,h4,h5⟩
     ·refine⟨_,h4,?_⟩;rw[←HLK.out,←Option.some.inj h5];simp[TZ]
     ·refine⟨_,h4,?_⟩;rw[←HLK.out,h5];rfl)
    clear h3;go_wp2_with fail
    go_roundw;case rel=>
     obtain⟨rr2,h6,h7⟩:=HREL.out;exact⟨j,acc++[cn],f',rr2,HS5.out.on HB6.out,HO5.out.on HB6.out,Ab HK5.out HB6.out,hjl,by rw[List.length_append];simp;have:=HAL.out;omega,h6,h7⟩
    case measure=>
     have h8:intOf (BO g 1 w6)=j:=by
      obtain⟨q6,hb6⟩:=(HS5.out.on HB6.out).blk;rw[Dj hb6.cells.c1];rfl
     rw[h8,HME.out];have:=HKL.out;omega
   |false=>
    have HQ:=AA hq;have h3:=HF2.out;rw[if_neg (by rw[hq];simp)]at h3;have H3:=AA h3;clear hq h3;go_region_held3 (fun w'=>w'.cell? ⟨g,0,none⟩=some lv∧w'.cell? ⟨g,1,none⟩=some (.int .i64 j)∧Below w5.heap.size w5 w')
     (first|exact⟨c0,c1,Below.refl _ _⟩|exact⟨c0,c1,AD _⟩|exact⟨(hb1.cell (p:=⟨g,0,none⟩) hgl).trans c0,(hb1.cell (p:=⟨g,1,none⟩) hgl).trans c1,AC (AD _) hb1⟩)
     (first|(go_at_call 77;refine(Qu HS5.out HQ.out (AD _)).mono ?_;rintro e w6 ⟨rfl,hb1⟩))
    have HB6:=AA (AC (AD w5) hb1);clear hb1 c0 c1;have HSG:=AA (Xr (HS5.out.on HB6.out) [59]);go_wp2_with fail
    refine HSG.out.mono ?_;intro e w7 hp7;obtain⟨hk7,hp7⟩:=hp7;have HK7:=AA (Ak (Ab HK5.out HB6.out) hk7);have HO7:=AA ((HO5.out.on HB6.out).keepG hk7 (fun q hq e=>by
     have h1:=(AM HO5.out q hq).1;have h2:=HH.out.lt;omega))
    have HA7:Hid ((acc++[cn]).length≤10000):=AA (by rw[List.length_append];simp;have:=HAL.out;have:=HKL.out;have:=HH.out.len;omega);cases hm:Bg M j [59]with
    |ok u j2=>
     rw[hm]at hp7;obtain⟨rfl,hs7⟩:=hp7;have HS7:=AA hs7;have HRR:Hid (r=.ok (acc++[cn]) j2):=AA (by
      have h3:=H3.out;rw[hm]at h3;rw[←HLK.out,←Option.some.inj h3];rfl)
     clear hm hk7 hs7;go_wp2_with fail
     refine bodyPost_ret (v:=.tuple #[.slice A5 n5 c5,.int .i64 0]) (by simp[results,Tryz.results216,go_sem]) rfl ?_;rw[HRR.out];exact⟨_,_,_,rfl,HO7.out,HA7.out,HK7.out,rfl,rfl,HS7.out⟩
    |bad er pl=>
     rw[hm]at hp7;obtain⟨rfl,hne,i7,hb7⟩:=hp7;have HNE:=AA hne;have HB7:=AA hb7;have HRR:Hid (r=.bad er pl):=AA (by
      have h3:=H3.out;rw[hm]at h3;rw[←HLK.out,←Option.some.inj h3];rfl)
     clear hm hk7 hne hb7;go_wp2_with fail
     refine bodyPost_ret (v:=.tuple #[.slice A5 n5 c5,.int .i64 er]) (by simp[results,Tryz.results216,go_sem]) rfl ?_;rw[HRR.out];exact⟨_,_,_,rfl,HO7.out,HA7.out,HK7.out,rfl,HNE.out,i7,HB7.out⟩
  ·obtain h1:=Option.some.inj h1;have h1:=Ta h1;rw[h1]at hp;obtain⟨rfl,hne,i2,hb2⟩:=hp;have hne2:(er != 0)=true:=by simp[hne]
   have HNE:=AA hne;have HB2:=AA hb2;have HRR:Hid (r=.bad er pl):=AA (by rw[←HLK.out,h2];rfl);clear h1 h2 hne hb2;go_wp2_with fail
   refine bodyPost_ret (v:=.tuple #[.slice none 0 0,.int .i64 er]) (by simp[results,Tryz.results216,go_sem]) rfl ?_;rw[HRR.out];exact⟨_,[],_,rfl,Ky _ _,by simp,HKW.out,rfl,HNE.out,i2,HB2.out⟩
end
end Go.Proofs.YthfkpalfopdmhaaGreatDoor
namespace Go.Proofs.YthfkpalfopdmhaaGreatDoor
open Go.RowKit
theorem QW:∀(M:List Tok) (j:Nat) (t:Tok),j<M.length→((((EG M).set (j*4) (.int .i64 t.kind)).set (j*4+1) (.string ⟨t.text.toArray⟩)).set (j*4+2) (.int .i64 t.n)).set (j*4+3) (.int .i64 t.pl)=EG (M.set j t)
 |[],j,t,h=>by simp at h
 |a::M,0,t,_=>by simp[EG,BK]
 |a::M,j+1,t,h=>by
  have ih:=QW M j t (by simpa using h);have e:EG (a::M)=BK a++EG M:=by simp[EG]
  have e2:EG ((a::M).set (j+1) t)=BK a++EG (M.set j t):=by simp[EG]
  have hl:(BK a).length=4:=rfl;rw[e,e2,←ih];rw[show(j+1)*4=(BK a).length+j*4 by rw[hl];omega];rw[show(BK a).length+j*4+1=(BK a).length+(j*4+1) by omega,show(BK a).length+j*4+2=(BK a).length+(j*4+2) by omega,show(BK a).length+j*4+3=(BK a).length+(j*4+3) by omega];simp only[List.set_append_right _ _ (Nat.le_add_right _ _),Nat.add_sub_cancel_left]
def Wt (w:World) (b j:Nat) (t:Tok):World:=(((w.setCell ⟨b,j*4,none⟩ (.int .i64 t.kind)).setCell ⟨b,j*4+1,none⟩ (.string ⟨t.text.toArray⟩)).setCell ⟨b,j*4+2,none⟩ (.int .i64 t.n)).setCell ⟨b,j*4+3,none⟩ (.int .i64 t.pl)
theorem VH (w:World) (b j:Nat) (t:Tok):AG (fun q=>q=b) w (Wt w b j t):=Ak (Ak (Ak AG.set AG.set) AG.set) AG.set
theorem QBc {w:World} {B b c j:Nat} {M:List Tok} {t:Tok} (h:Lo w B (.slice (some ⟨b,0,none⟩) M.length c) M) (hj:j<M.length):Lo (Wt w b j t) B (.slice (some ⟨b,0,none⟩) M.length c) (M.set j t):=by
 obtain⟨h1,h2⟩:=h;rcases h2 with⟨hv,_⟩|⟨g,cap,cur,hv,hB,hh,hn,hm,hs,hc⟩
 ·cases hv
 ·simp only[Value.slice.injEq,Option.some.injEq,Addr.mk.injEq,and_true,true_and]at hv;obtain⟨rfl,rfl⟩:=hv;have h4:=Am (j:=j*4+3) (v:=.int .i64 t.pl) (Am (j:=j*4+2) (v:=.int .i64 t.n) (Am (j:=j*4+1) (v:=.string ⟨t.text.toArray⟩) (Am (j:=j*4) (v:=.int .i64 t.kind) hh)));refine⟨by rw[O5,List.length_set];omega,.inr ⟨b,c,_,by rw[List.length_set],hB,h4,by rw[List.length_set];exact hn,hm,by simp[hs],?_⟩⟩;rw[List.length_set,←QW M j t hj,←hc];simp only[Array.toList_setIfInBounds,List.take_set]
theorem Zi {M:List Tok} (h:Gl M) {j i:Nat} {t:Tok} (ht:M[i]?=some t):Gl (M.set j t):=by
 intro x hx;rcases List.mem_or_eq_of_mem_set hx with hx|rfl
 ·exact h x hx
 ·exact h _ (List.mem_of_getElem? ht)
theorem Wu {M:List Tok} (h:CJ M) {j i:Nat} {t:Tok} (ht:M[i]?=some t):CJ (M.set j t):=by
 intro x hx;rcases List.mem_or_eq_of_mem_set hx with hx|rfl
 ·exact h x hx
 ·exact h _ (List.mem_of_getElem? ht)
theorem Tc {M:List Tok} {j k:Nat} {t:Tok} (hjk:j<k) (hk:k<M.length):Ea M (M.set j t) k:=by
 refine⟨by simp,fun q hq=>?_,?_⟩
 ·rw[List.getElem?_set,if_neg (by omega)]
 ·rw[List.getLast?_eq_getElem?,List.getLast?_eq_getElem?,List.length_set,List.getElem?_set,if_neg (by omega)]
theorem QDd {M:List Tok} {i j:Nat} {t:Tok} (ht:M[i]?=some t) (hj:j<M.length) (s:List UInt8):isB (M.set j t) j s=isB M i s:=by
 unfold isB;rw[Int.toNat_natCast,Int.toNat_natCast,List.getElem?_set,if_pos rfl,if_pos hj,ht];simp
theorem Zj {M:List Tok} {i j:Nat} {t:Tok} (ht:M[i]?=some t) (hj:j<M.length):AT (M.set j t) j=AT M i:=by
 rw[N7 ht,N7 (t:=t) (by rw[List.getElem?_set,if_pos rfl,if_pos hj])]
theorem QBd {M:List Tok} {k:Nat} (hk:M.length≤k):Ao M k=1:=by
 rcases FO M k with h|⟨_,_,h⟩
 ·exact h
 ·have:=Bt h;omega
theorem rest_end {M:List Tok} {f k o:Nat} {r:RS (List Stm)} (hk:M.length≤k) (h:Fo M f k o=some r):r=.bad 6 (AT M k):=by
 unfold Fo at h;cases f with
 |zero=>simp[Ci]at h
 |succ f=>
  rw[DI,if_neg (by intro hb;have:=Bt hb;omega)]at h;have hn:BW M k=.bad 6 (AT M k):=by
   unfold BW nameAt badR;rw[List.getElem?_eq_none hk,if_neg (by omega)]
  have h1:GO (Ci M f) M k 0 0=some (.bad 6 (AT M k)):=by
   unfold GO;rw[QBd hk,if_neg (by omega)];unfold DC;simp[hn]
  rw[h1]at h;simpa using h.symm
end Go.Proofs.YthfkpalfopdmhaaGreatDoor
