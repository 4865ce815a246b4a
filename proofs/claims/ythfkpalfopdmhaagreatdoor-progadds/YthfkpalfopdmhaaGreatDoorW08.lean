/- Texts of the walk, packed. -/
import Derived.Test.YthfkpalfopdmhaaGreatDoorW07
import Derived.Deep.RegionHeld3
import Derived.Test.YthfkpalfopdmhaaGreatDoorW00
namespace Go.Proofs.YthfkpalfopdmhaaGreatDoor
open Go.RowKit
theorem AD (w:World):Below w.heap.size w w.drew:=⟨rfl,rfl,rfl,Nat.le_refl _,fun _ _=>rfl⟩
structure Sits (L:List Tok) (w:World) (g:Nat) (v:Value) (i d:Nat):Prop where
 rd:Rd w g v i d
 toks:Ry g w v L
 tabs:Tabs w
 far:8<g
theorem Sits.on {L:List Tok} {w w':World} {g:Nat} {v:Value} {i d:Nat} (h:Sits L w g v i d) (hb:Below w.heap.size w w'):Sits L w' g v i d:=
 ⟨h.rd.on hb,h.toks.keep h.rd.lt (Ac.of hb),h.tabs.on hb,h.far⟩
theorem Sits.set1 {L:List Tok} {w:World} {g:Nat} {v:Value} {i d:Nat} (h:Sits L w g v i d) (j:Nat):Sits L (w.setCell ⟨g,1,none⟩ (.int .i64 j)) g v j d:=
 ⟨h.rd.set1 j,h.toks.keep h.rd.lt (Ac.refl _ _).set,h.tabs.keep h.far h.rd.lt (Ac.refl _ _).set,h.far⟩
theorem Sits.set2 {L:List Tok} {w:World} {g:Nat} {v:Value} {i d:Nat} (h:Sits L w g v i d) (j:Nat):Sits L (w.setCell ⟨g,2,none⟩ (.int .i64 j)) g v i j:=
 ⟨h.rd.set2 j,h.toks.keep h.rd.lt (Ac.refl _ _).set,h.tabs.keep h.far h.rd.lt (Ac.refl _ _).set,h.far⟩
theorem Sits.read {L:List Tok} {w:World} {g:Nat} {v:Value} {i d:Nat} (h:Sits L w g v i d):GX w v L:=h.toks.read h.rd.lt
set_option maxHeartbeats 2000000 in
theorem LZ (L:List Tok) (g:Nat) (v:Value) (i d:Nat) (w:World) (h:Sits L w g v i d):Calls Tryz.prog 282 #[.pointer (some ⟨g,0,none⟩)] w (AK (decide (L.length<=i)) w):=by
 obtain⟨⟨hlt,c0,c1,c2,f1,f2⟩,⟨A,c,rfl,hc,_⟩,_,_⟩:=h;clear c2 f1 f2;go_enter Tryz.func282,Tryz.ntmps282;go_wp2_with fail
 go_quiet (fail)
 go_wp2_with fail
 go_ret;exact⟨AH (by first|rfl|simp),AM _ _⟩
set_option maxHeartbeats 2000000 in
theorem J6 (L:List Tok) (g:Nat) (v:Value) (i d:Nat) (w:World) (h:Sits L w g v i d):Calls Tryz.prog 281 #[.pointer (some ⟨g,0,none⟩)] w (L6 (if L.length<=i then 6 else 5) w):=by
 have HS:=AA h;clear h;by_cases hl:L.length<=i
 ·rw[if_pos hl];have hd:Hid (decide (L.length<=i)=true):=AA (by simpa using hl);clear hl;go_enter Tryz.func281,Tryz.ntmps281;go_wp2_with fail
  refine(LZ L g v i d _ HS.out).mono ?_;rw[hd.out];rintro e w1 ⟨rfl,hb⟩;go_wp2_with fail
  go_ret;exact⟨rfl,hb⟩
 ·rw[if_neg hl];have hd:Hid (decide (L.length<=i)=false):=AA (by simpa using hl);clear hl;go_enter Tryz.func281,Tryz.ntmps281;go_wp2_with fail
  refine(LZ L g v i d _ HS.out).mono ?_;rw[hd.out];rintro e w1 ⟨rfl,hb⟩;go_wp2_with fail
  go_ret;exact⟨rfl,hb⟩
theorem GG {L:List Tok} {i:Nat} {s:List UInt8} {q:Bool} (hq:isB L i s=q) (v:Value) (w:World) (h:GX w v L):Calls Tryz.prog 77 #[v,.int .i64 i,.string ⟨s.toArray⟩] w (AK q w):=by
 have:=QFu v L i ⟨s.toArray⟩ w h
 rwa [show(ByteArray.mk s.toArray).data.toList=s from by simp,hq]at this
theorem QFZ {W w1 w2:World} {a b k:Nat} {x y z:Value} (ha:a<W.heap.size) (hb0:b<W.heap.size) (h:w1.cell? ⟨a,0,none⟩=some x/\w1.cell? ⟨a,1,none⟩=some y/\w1.cell? ⟨b,k,none⟩=some z/\Below W.heap.size W w1) (hb:Below w1.heap.size w1 w2):
  w2.cell? ⟨a,0,none⟩=some x/\w2.cell? ⟨a,1,none⟩=some y/\w2.cell? ⟨b,k,none⟩=some z/\Below W.heap.size W w2:=by
 have hz:=h.2.2.2.size;exact⟨(hb.cell (p:=⟨a,0,none⟩) (by show a<_;omega)).trans h.1,(hb.cell (p:=⟨a,1,none⟩) (by show a<_;omega)).trans h.2.1,(hb.cell (p:=⟨b,k,none⟩) (by show b<_;omega)).trans h.2.2.1,AC h.2.2.2 hb⟩
theorem We:∀k,k<16->∀w:World,(Instr.index 180 (.agg Kw) (.int .i64 (k:Nat))).run Tryz.prog w=.ok (.string ⟨(Ar k).toArray⟩) w:=by
 intro k hk w;have h:k=0\/k=1\/k=2\/k=3\/k=4\/k=5\/k=6\/k=7\/k=8\/k=9\/k=10\/k=11\/k=12\/k=13\/k=14\/k=15:=by omega
 rcases h with rfl|rfl|rfl|rfl|rfl|rfl|rfl|rfl|rfl|rfl|rfl|rfl|rfl|rfl|rfl|rfl;all_goals(refine Eq.trans ?_ rfl;kernel_rfl)
def OK (L:List Tok) (b i k:Nat):Prop:=∀op,op<k->(Em op==(b:Int)&&isB L i (Ar op))=false
theorem OK.succ {L:List Tok} {b i k:Nat} (h:OK L b i k) (hk:(Em k==(b:Int)&&isB L i (Ar k))=false):OK L b i (k+1):=by
 intro op ho;by_cases e:op=k
 ·subst e;exact hk
 ·exact h op (by omega)
theorem find_range (p:Nat->Bool):∀(n k:Nat),k<n->(∀j,j<k->p j=false)->p k=true->(List.range n).find? p=some k:=by
 intro n
 induction n with
 |zero=>intro k h;omega
 |succ n ih=>
  intro k hk hj hp;rw[List.range_succ,List.find?_append];by_cases e:k=n
  ·subst e;have:(List.range k).find? p=none:=by
    rw[List.find?_eq_none];intro x hx;rw[hj x (by simpa using hx)];simp
   rw[this];simp[hp]
  ·rw[ih k (by omega) hj hp];rfl
theorem Wg {L:List Tok} {b i k:Nat} (hk:k<16) (h:OK L b i k) (hp:(Em k==(b:Int)&&isB L i (Ar k))=true):Aw L b i=k:=by
 unfold Aw;rw[find_range (fun op=>Em op==(b:Int)&&isB L i (Ar op)) 16 k hk h hp];rfl
theorem Wh {L:List Tok} {b i:Nat} (h:OK L b i 16):Aw L b i=0:=by
 unfold Aw;have:(List.range 16).find? (fun op=>Em op==(b:Int)&&isB L i (Ar op))=none:=by
  rw[List.find?_eq_none];intro x hx;rw[h x (by simpa using hx)];simp
 rw[this];rfl
set_option maxRecDepth 100000 in
set_option maxHeartbeats 4000000 in
theorem NH (L:List Tok) (g:Nat) (v:Value) (i d b:Nat) (w:World) (h:Sits L w g v i d):Calls Tryz.prog 237 #[.pointer (some ⟨g,0,none⟩),.int .i64 b] w (L6 (Aw L b i) w):=by
 have HS:=AA h;obtain⟨tt,fr,hg⟩:=h.tabs.signs;have HG:=AA hg;have HX:=AA We;clear h hg;go_enter Tryz.func237,Tryz.ntmps237;go_wp2_with (refine wpList_load_row rfl 180 _ rfl 0 rfl tt Kw fr _ HG.out Tryz.underlying180 rfl (by kernel_rfl) ?_)
 go_loopw [8] (fun j wr=>∃k:Nat,k<=16/\j=.int .i64 k/\Below w.heap.size w wr/\OK L b i k) (fun j _=>16-(intOf j).toNat)
 case atStart=>exact⟨0,Nat.zero_le _,rfl,Below.refl _ _,fun op ho=>absurd ho (by omega)⟩
 case round=>
  obtain⟨k,hk,rfl,hbel,hno⟩:=hrel;have HB:=AA hbel;have HN:=AA hno;have hS:=HS.out.on hbel;have HS2:=AA hS;clear hno hbel;by_cases hlt:k<16
  ·have hx:=HX.out k hlt;have hbc:=hS.tabs.bind hlt;obtain⟨⟨hgl,c0,c1,c2,f1,f2⟩,_,htabs,_⟩:=hS;have htl:=htabs.lt;clear c2 f1 f2 htabs;cases e1:(Em k==(b:Int))with
   |false=>
    have HQ:=AA (HN.out.succ (k:=k) (by rw[e1];rfl));generalize Em k=bk at *;generalize Ar k=sk at *;go_wp2_with fail
    go_quiet (fail)
    go_wp2_with fail
    go_roundw;case rel=>exact⟨k+1,by omega,by go_num,AC HB.out (AM _ _),HQ.out⟩
    case measure=>simp[intOf];omega
   |true=>
    have hi0:(0:Int)<=(k:Int):=by omega
    have hi1:(k:Int)<16:=by omega
    cases e2:isB L i (Ar k)with
    |false=>
     have HQ:=AA (HN.out.succ (k:=k) (by rw[e1,e2];rfl));have HI:=AA e2;clear e2;generalize Em k=bk at *;generalize Ar k=sk at *;go_wp2_with fail
     go_region_held3 (fun w'=>w'.cell? ⟨g,0,none⟩=some v/\w'.cell? ⟨g,1,none⟩=some (.int .i64 i)/\w'.cell? ⟨7,k,none⟩=some (.int .i64 bk)/\Below wr.heap.size wr w')
      (first|exact⟨c0,c1,hbc,Below.refl _ _⟩|exact⟨c0,c1,hbc,AD _⟩|exact QFZ (w1:=wr.drew) hgl htl ⟨c0,c1,hbc,AD _⟩ hb1)
      (first|(go_at_call 77;refine(GG HI.out v _ (HS2.out.on (AD _)).read).mono ?_;rintro e w1 ⟨rfl,hb1⟩))
     go_wp2_with fail
     go_roundw;case rel=>exact⟨k+1,by omega,by go_num,AC HB.out (AC (AD _) hb1),HQ.out⟩
     case measure=>simp[intOf];omega
    |true=>
     have HQ:=AA (Wg hlt HN.out (by rw[e1,e2];rfl));have HI:=AA e2;clear e2;generalize Em k=bk at *;generalize Ar k=sk at *;go_wp2_with fail
     go_region_held3 (fun w'=>w'.cell? ⟨g,0,none⟩=some v/\w'.cell? ⟨g,1,none⟩=some (.int .i64 i)/\w'.cell? ⟨7,k,none⟩=some (.int .i64 bk)/\Below wr.heap.size wr w')
      (first|exact⟨c0,c1,hbc,Below.refl _ _⟩|exact⟨c0,c1,hbc,AD _⟩|exact QFZ (w1:=wr.drew) hgl htl ⟨c0,c1,hbc,AD _⟩ hb1)
      (first|(go_at_call 77;refine(GG HI.out v _ (HS2.out.on (AD _)).read).mono ?_;rintro e w1 ⟨rfl,hb1⟩))
     go_wp2_with fail
     go_ret;exact Ef rfl (by rw[HQ.out]) (AC HB.out (AC (AD _) hb1))
  ·obtain rfl:k=16:=by omega
   have HQ:=AA (Wh HN.out);clear hS;go_wp2_with fail
   go_ret;exact Ef (n':=0) rfl (by rw[HQ.out];rfl) HB.out
def QBc (L:List Tok) (g:Nat) (v:Value) (j d:Nat) (n:Int) (w:World) (e:Ending) (w':World):Prop:=e=.returned (.int .i64 n)/\Sits L w' g v j d/\Ac g w w'
theorem H6 {W w1 w2:World} {a:Nat} {x y:Value} (ha:a<W.heap.size) (h:w1.cell? ⟨a,0,none⟩=some x/\w1.cell? ⟨a,1,none⟩=some y/\Below W.heap.size W w1) (hb:Below w1.heap.size w1 w2):
  w2.cell? ⟨a,0,none⟩=some x/\w2.cell? ⟨a,1,none⟩=some y/\Below W.heap.size W w2:=by
 have hz:=h.2.2.size;exact⟨(hb.cell (p:=⟨a,0,none⟩) (by show a<_;omega)).trans h.1,(hb.cell (p:=⟨a,1,none⟩) (by show a<_;omega)).trans h.2.1,AC h.2.2 hb⟩
set_option maxRecDepth 100000 in
set_option maxHeartbeats 4000000 in
theorem Wi (L:List Tok) (g:Nat) (v:Value) (i d:Nat) (w:World) (h:Sits L w g v i d) (hl:L.length<=10000) (hq:isB L i [41]=true):Calls Tryz.prog 265 #[.pointer (some ⟨g,0,none⟩)] w (QBc L g v (i+1) d 0 w):=by
 have HS:=AA h;have HI:=AA hq;have hlt:=Bl hq;obtain⟨⟨hgl,c0,c1,c2,f1,f2⟩,_,_,_⟩:=h;clear c2 f1 f2 hq;go_enter Tryz.func265,Tryz.ntmps265;go_wp2_with fail
 go_region_held3 (fun w'=>w'.cell? ⟨g,0,none⟩=some v/\w'.cell? ⟨g,1,none⟩=some (.int .i64 i)/\Below w.heap.size w w')
  (first|exact⟨c0,c1,Below.refl _ _⟩|exact⟨c0,c1,AD _⟩|exact H6 (w1:=w.drew) hgl ⟨c0,c1,AD _⟩ hb1)
  (first|(go_at_call 77;refine(GG (s:=[41]) HI.out v _ (HS.out.on (AD _)).read).mono ?_;rintro e w1 ⟨rfl,hb1⟩))
 have HB:=AA (AC (AD w) hb1);clear hb1 c0 c1;have HS2:=AA (HS.out.on HB.out);obtain⟨⟨hgl1,c0,c1,c2,f1,f2⟩,_,_,_⟩:=HS2.out;go_wp2_with fail
 go_ret;exact⟨rfl,HS2.out.set1 (i+1),(Ac.of HB.out).set⟩
set_option maxRecDepth 100000 in
set_option maxHeartbeats 4000000 in
theorem ZR (L:List Tok) (g:Nat) (v:Value) (i d:Nat) (w:World) (h:Sits L w g v i d) (hq:isB L i [41]=false):Calls Tryz.prog 265 #[.pointer (some ⟨g,0,none⟩)] w (QBc L g v i d (if L.length<=i then 6 else 5) w):=by
 have HS:=AA h;have HI:=AA hq;obtain⟨⟨hgl,c0,c1,c2,f1,f2⟩,_,_,_⟩:=h;clear c2 f1 f2 hq;generalize hn:(if L.length<=i then(6:Int)else 5)=n;have HN:=AA hn;clear hn;go_enter Tryz.func265,Tryz.ntmps265;go_wp2_with fail
 go_region_held3 (fun w'=>w'.cell? ⟨g,0,none⟩=some v/\w'.cell? ⟨g,1,none⟩=some (.int .i64 i)/\Below w.heap.size w w')
  (first|exact⟨c0,c1,Below.refl _ _⟩|exact⟨c0,c1,AD _⟩|exact H6 (w1:=w.drew) hgl ⟨c0,c1,AD _⟩ hb1)
  (first|(go_at_call 77;refine(GG (s:=[41]) HI.out v _ (HS.out.on (AD _)).read).mono ?_;rintro e w1 ⟨rfl,hb1⟩))
 have HB:=AA (AC (AD w) hb1);clear hb1 c0 c1;have HS2:=AA (HS.out.on HB.out);go_wp2_with fail
 refine(J6 L g v i d _ HS2.out).mono ?_;rw[HN.out];rintro e w2 ⟨rfl,hb⟩;go_wp2_with fail
 go_ret;exact⟨rfl,HS2.out.on hb,Ac.of (AC HB.out hb)⟩
end Go.Proofs.YthfkpalfopdmhaaGreatDoor
