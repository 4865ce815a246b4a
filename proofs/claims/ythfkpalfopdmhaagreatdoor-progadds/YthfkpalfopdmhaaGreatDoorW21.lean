/- Texts of the walk, packed. -/
import Derived.Test.YthfkpalfopdmhaaGreatDoorW20
import Derived.Test.YthfkpalfopdmhaaGreatDoorW03
import Derived.Test.YthfkpalfopdmhaaGreatDoorW00
namespace Go.Proofs.YthfkpalfopdmhaaGreatDoor
open Go.RowKit
def Na (l:List UInt8) (w:World) (e:Ending) (w':World):Prop:=∃(b:ByteArray) (c:Bool),e=.returned (.tuple #[.string ⟨l.toArray⟩,.string b,.bool c])/\Below w.heap.size w w'
set_option maxRecDepth 100000 in
set_option maxHeartbeats 4000000 in
theorem Zy (l:List UInt8) (n:Nat) (w:World) (hl:l.length<=100) (hx:Lib.indexByte l 32=n) (hn:n<l.length):Calls Tryz.prog 293 #[.string ⟨l.toArray⟩,.string ⟨#[32]⟩] w (Na (l.take n) w):=by
 have hsz:(⟨l.toArray⟩:ByteArray).size=l.length:=rfl;have hext:(⟨l.toArray⟩:ByteArray).extract 0 n=⟨(l.take n).toArray⟩:=by apply LU;rw[ByteArray.data_extract];simp
 have HX:=AA hx;have hw1:IntKind.i64.wrap ((n:Int)+1)=(n:Int)+1:=IntWalk.i64_in _ (by omega);clear hx;go_enter Tryz.func293,Tryz.ntmps293;go_wp2_with fail
 refine(Tryz.stringslite_Index_one ⟨l.toArray⟩ 32 _).mono ?_;rw[show(ByteArray.mk l.toArray).data.toList=l from by simp,HX.out];rintro e w1 ⟨rfl,rfl⟩;have h0:(0:Int)<=(n:Int):=by omega
 have h1:(n:Int)<=((⟨l.toArray⟩:ByteArray).size:Int):=by rw[hsz];omega
 have h2:(n:Int)+1<=((⟨l.toArray⟩:ByteArray).size:Int):=by rw[hsz];omega
 go_wp2_with fail
 go_quiet (fail)
 go_wp2_with fail
 refine bodyPost_ret (v:=.tuple #[.string ⟨(l.take n).toArray⟩,.string (ByteArray.extract ⟨l.toArray⟩ (n+1) l.length),.bool true]) (by simp[results,Tryz.results293,go_sem]) rfl ?_;exact⟨_,_,rfl,AM _ _⟩
set_option maxRecDepth 100000 in
set_option maxHeartbeats 4000000 in
theorem QB3 (w:World):Calls Tryz.prog 293 #[.string ⟨#[]⟩,.string ⟨#[32]⟩] w (Na [] w):=by
 go_enter Tryz.func293,Tryz.ntmps293;go_wp2_with fail
 refine(Tryz.stringslite_Index_one ⟨#[]⟩ 32 _).mono ?_;rw[show Lib.indexByte (ByteArray.mk #[]).data.toList 32= -1 from rfl];rintro e w1 ⟨rfl,rfl⟩;go_wp2_with fail
 refine bodyPost_ret (v:=.tuple #[.string ⟨#[]⟩,.string ⟨#[]⟩,.bool false]) (by simp[results,Tryz.results293,go_sem]) rfl ?_;exact⟨_,_,rfl,Below.refl _ _⟩
theorem XE:∀k:Fin 15,1<=k.1->Lib.indexByte (CN k.1) 32=((Il k.1).length:Nat)/\(Il k.1).length<(CN k.1).length/\(CN k.1).take (Il k.1).length=Il k.1:=by decide
set_option maxRecDepth 100000 in
set_option maxHeartbeats 4000000 in
theorem QEO {k:Nat} (hk:k<15) (w:World):Calls Tryz.prog 287 #[.string ⟨(CN k).toArray⟩,.string ⟨#[32]⟩] w (Na (Il k) w):=by
 have key:∀w,Calls Tryz.prog 293 #[.string ⟨(CN k).toArray⟩,.string ⟨#[32]⟩] w (Na (Il k) w):=by
  intro w;rcases Nat.eq_zero_or_pos k with rfl|h0
  ·exact QB3 w
  ·obtain⟨h1,h2,h3⟩:=XE ⟨k,hk⟩ h0;have:=Zy (CN k) (Il k).length w (by have:=OS hk;omega) h1 h2
   rwa [h3]at this
 have HK:=AA key;generalize CN k=f at *;generalize Il k=q at *;clear key hk;go_enter Tryz.func287,Tryz.ntmps287;go_wp2_with fail
 refine(HK.out _).mono ?_;rintro e w1 ⟨b,c,rfl,hb⟩;go_wp2_with fail
 refine bodyPost_ret (v:=.tuple #[.string ⟨q.toArray⟩,.string b,.bool c]) (by simp[results,Tryz.results287,go_sem]) rfl ?_;exact⟨b,c,rfl,hb⟩
theorem XF:∀k,k<15->∀w:World,(Instr.index 216 (.agg GE) (.int .i64 (k:Nat))).run Tryz.prog w=.ok (.string ⟨(CN k).toArray⟩) w:=by
 intro k hk w;have:k=0\/k=1\/k=2\/k=3\/k=4\/k=5\/k=6\/k=7\/k=8\/k=9\/k=10\/k=11\/k=12\/k=13\/k=14:=by omega
 rcases this with rfl|rfl|rfl|rfl|rfl|rfl|rfl|rfl|rfl|rfl|rfl|rfl|rfl|rfl|rfl;all_goals(refine Eq.trans ?_ rfl;kernel_rfl)
def Tu (L:List Tok) (i k:Nat):Prop:=∀j,j<k->j≠1->isB L i (CM.getD j [])=false
theorem Tu.succ {L:List Tok} {i k:Nat} (h:Tu L i k) (hk:k≠1->isB L i (CM.getD k [])=false):Tu L i (k+1):=by
 intro j hj h1;by_cases e:j=k
 ·subst e;exact hk h1
 ·exact h j (by omega) h1
section
variable {L:List Tok} {W0:World} {g:Nat} {lv:Value} {i d l m:Nat} {pl:Int} {K:List Sv} {kv:Value} {w:World}
set_option maxRecDepth 100000 in
set_option maxHeartbeats 8000000 in
theorem QFd (hs:Src L W0 lv) (h:Dc L W0 g lv i d l m pl K kv w):Calls Tryz.prog 279 #[.pointer (some ⟨g,0,none⟩)] w (L6 (H8 L i l) w):=by
 have HS:=AA h;have HC:=AA hs;obtain⟨tt,fr,hg⟩:=(h.tabs hs).forms;have hlt1:2<w.heap.size:=(Array.getElem?_eq_some_iff.1 hg).1;have HG:=AA hg;have HX:=AA XF;clear h hs hg;cases hn:DU L i with
 |true=>
  have HN:=AA hn;have HQ:=AA (VS l hn);clear hn;go_enter Tryz.func279,Tryz.ntmps279;go_wp2_with fail
  refine(Tm HC.out HS.out).mono ?_;rw[HN.out];rintro e w1 ⟨rfl,hb1⟩;go_wp2_with fail
  go_ret;exact Ef (n':=1) rfl (by rw[HQ.out];rfl) hb1
 |false=>
  have HN:=AA hn;clear hn;go_enter Tryz.func279,Tryz.ntmps279;go_wp2_with fail
  refine(Tm HC.out HS.out).mono ?_;rw[HN.out];rintro e w1 ⟨rfl,hb1⟩;have HB1:=AA hb1;have HG1:Hid (w1.heap[2]?=some (.cells GE tt fr)):=AA (by rw[hb1.block 2 hlt1];exact HG.out);clear hb1;go_wp2_with (refine wpList_load_row rfl 216 _ rfl 2 rfl tt GE fr _ HG1.out Tryz.underlying216 rfl (by kernel_rfl) ?_)
  go_loopw [11] (fun j wr=>∃k:Nat,k<=15/\j=.int .i64 k/\Below w.heap.size w wr/\Tu L i k) (fun j _=>15-(intOf j).toNat)
  case atStart=>exact⟨0,Nat.zero_le _,rfl,HB1.out,fun op ho=>absurd ho (by omega)⟩
  case round=>
   obtain⟨k,hk,rfl,hbel,hno⟩:=hrel;have HB:=AA hbel;have HO:=AA hno;have HS2:=AA (HS.out.on hbel);clear hno hbel;by_cases hlt:k<15;case neg=>
    obtain rfl:k=15:=by omega
    have HQ:=AA (Qe (l:=l) HN.out (fun k h1 h2=>HO.out k (by omega) (by omega)));go_wp2_with fail
    go_ret;exact Ef (n':=0) rfl (by rw[HQ.out];rfl) HB.out
   case pos=>
   have hx:=HX.out k hlt;have HCU:=AA (QEO hlt);have hgl:=HS2.out.lt;have c0:=HS2.out.c0;have c1:=HS2.out.c1;have c3:=HS2.out.c3;have hw1:IntKind.i64.wrap ((k:Int)+1)=(k:Int)+1:=IntWalk.i64_in _ (by omega);have hi0:(0:Int)<=(k:Int):=by omega
   have hi1:(k:Int)<15:=by omega
   by_cases k1:k=1
   ·have HQ:=AA (HO.out.succ (k:=k) (fun h=>absurd k1 h));subst k1;have hx:∀w:World,(Instr.index 216 (.agg GE) (.int .i64 1)).run Tryz.prog w=.ok (.string ⟨(CN 1).toArray⟩) w:=HX.out 1 (by omega);generalize CN 1=fk at *;generalize Il 1=qk at *;go_wp2_with fail
    refine(HCU.out _).mono ?_;rintro e w2 ⟨b,c,rfl,hb2⟩;have HB2:=AA (AC HB.out hb2);clear hb2 c0 c1 c3;go_wp2_with fail
    go_quiet (fail)
    go_wp2_with fail
    go_roundw;case rel=>exact⟨2,by omega,rfl,AC HB2.out (AM _ _),HQ.out⟩
    case measure=>simp[intOf]
   have hk1:((k:Int)==1)=false:=by simp;omega
   have hfw:Il k=CM.getD k []:=by unfold Il;rw[if_neg k1]
   cases hq:isB L i (CM.getD k [])with
   |false=>
    have HQ:=AA (HO.out.succ (k:=k) (fun _=>hq));rw[hfw]at HCU;have HI:=AA hq;clear hq k1 hfw;generalize CN k=fk at *;generalize CM.getD k []=qk at *;go_wp2_with fail
    refine(HCU.out _).mono ?_;rintro e w2 ⟨b,c,rfl,hb2⟩;have HB2:=AA (AC HB.out hb2);have HS3:=AA (HS.out.on HB2.out);clear hb2 c0 c1 c3 hgl;have hgl:=HS3.out.lt;have c0:=HS3.out.c0;have c1:=HS3.out.c1;go_wp2_with fail
    go_region_held3 (fun w'=>w'.cell? ⟨g,0,none⟩=some lv/\w'.cell? ⟨g,1,none⟩=some (.int .i64 i)/\Below w2.heap.size w2 w')
     (first|exact⟨c0,c1,Below.refl _ _⟩|exact⟨c0,c1,AD _⟩|exact H6 (w1:=w2.drew) hgl ⟨c0,c1,AD _⟩ hb3)
     (first|(go_at_call 77;refine(GG HI.out lv _ ((HS3.out.on (AD _)).toks HC.out)).mono ?_;rintro e w3 ⟨rfl,hb3⟩))
    go_wp2_with fail
    go_roundw;case rel=>exact⟨k+1,by omega,by go_num,AC HB2.out (AC (AD _) hb3),HQ.out⟩
    case measure=>simp[intOf];omega
   |true=>
    by_cases hz:k=13/\l=0
    ·obtain⟨rfl,rfl⟩:=hz;have HQ:Hid (H8 L i 0=0):=AA (by rw[O5 (by omega) (by omega) hq,if_pos ⟨rfl,rfl⟩]);rw[hfw]at HCU;have HI:=AA hq;clear hq k1 hfw;have hx:∀w:World,(Instr.index 216 (.agg GE) (.int .i64 13)).run Tryz.prog w=.ok (.string ⟨(CN 13).toArray⟩) w:=HX.out 13 (by omega);generalize CN 13=fk at *;generalize CM.getD 13 []=qk at *;go_wp2_with fail
     refine(HCU.out _).mono ?_;rintro e w2 ⟨b,c,rfl,hb2⟩;have HB2:=AA (AC HB.out hb2);have HS3:=AA (HS.out.on HB2.out);clear hb2 c0 c1 c3 hgl;have hgl:=HS3.out.lt;have c0:=HS3.out.c0;have c1:=HS3.out.c1;go_wp2_with fail
     go_region_held3 (fun w'=>w'.cell? ⟨g,0,none⟩=some lv/\w'.cell? ⟨g,1,none⟩=some (.int .i64 i)/\Below w2.heap.size w2 w')
      (first|exact⟨c0,c1,Below.refl _ _⟩|exact⟨c0,c1,AD _⟩|exact H6 (w1:=w2.drew) hgl ⟨c0,c1,AD _⟩ hb3)
      (first|(go_at_call 77;refine(GG HI.out lv _ ((HS3.out.on (AD _)).toks HC.out)).mono ?_;rintro e w3 ⟨rfl,hb3⟩))
     have HB3:=AA (AC HB2.out (AC (AD _) hb3));have HS4:=AA (HS.out.on HB3.out);clear hb3 c0 c1 hgl;have hgl:=HS4.out.lt;have c3:=HS4.out.c3;go_wp2_with fail
     go_ret;exact Ef (n':=0) rfl (by rw[HQ.out];rfl) HB3.out
    ·have HQ:Hid (H8 L i l=k):=AA (by
      rcases Nat.lt_or_ge k 2 with h|h
      ·obtain rfl:k=0:=by omega
       exact VT HN.out hq
      ·rw[O5 h (by omega) hq,if_neg hz])
     rw[hfw]at HCU;have HI:=AA hq;clear hq k1 hfw;generalize CN k=fk at *;generalize CM.getD k []=qk at *;go_wp2_with fail
     refine(HCU.out _).mono ?_;rintro e w2 ⟨b,c,rfl,hb2⟩;have HB2:=AA (AC HB.out hb2);have HS3:=AA (HS.out.on HB2.out);clear hb2 c0 c1 c3 hgl;have hgl:=HS3.out.lt;have c0:=HS3.out.c0;have c1:=HS3.out.c1;go_wp2_with fail
     go_region_held3 (fun w'=>w'.cell? ⟨g,0,none⟩=some lv/\w'.cell? ⟨g,1,none⟩=some (.int .i64 i)/\Below w2.heap.size w2 w')
      (first|exact⟨c0,c1,Below.refl _ _⟩|exact⟨c0,c1,AD _⟩|exact H6 (w1:=w2.drew) hgl ⟨c0,c1,AD _⟩ hb3)
      (first|(go_at_call 77;refine(GG HI.out lv _ ((HS3.out.on (AD _)).toks HC.out)).mono ?_;rintro e w3 ⟨rfl,hb3⟩))
     have HB3:=AA (AC HB2.out (AC (AD _) hb3));have HS4:=AA (HS.out.on HB3.out);clear hb3 c0 c1 hgl;have hgl:=HS4.out.lt;have c3:=HS4.out.c3;by_cases k13:k=13
     ·have hk13:((k:Int)==13)=true:=by rw[k13];rfl
      have hl0:((l:Int)==0)=false:=by simp;omega
      clear k13 hz;go_wp2_with fail
      go_ret;exact Ef (n':=k) rfl (by rw[HQ.out]) HB3.out
     ·have hk13:((k:Int)==13)=false:=by simp;omega
      clear k13 hz;go_wp2_with fail
      go_ret;exact Ef (n':=k) rfl (by rw[HQ.out]) HB3.out
end
end Go.Proofs.YthfkpalfopdmhaaGreatDoor
