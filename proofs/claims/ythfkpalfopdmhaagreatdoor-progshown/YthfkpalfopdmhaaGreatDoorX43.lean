/- Texts of the walk, packed. -/
import Derived.Test.YthfkpalfopdmhaaGreatDoorX39
import Derived.Test.YthfkpalfopdmhaaGreatDoorX07
import Derived.WalkMore
import Derived.Deep.Cut
import Derived.Test.YthfkpalfopdmhaaGreatDoorX38
import Derived.Test.YthfkpalfopdmhaaGreatDoorX40
import Derived.Test.YthfkpalfopdmhaaGreatDoorX29
import Derived.Test.YthfkpalfopdmhaaGreatDoorX32
import Derived.Deep.RegionHeld3
import Derived.Test.YthfkpalfopdmhaaGreatDoorX30
import Derived.Test.YthfkpalfopdmhaaGreatDoorX16
import Derived.Test.YthfkpalfopdmhaaGreatDoorX00
namespace Go.Proofs.YthfkpalfopdmhaaGreatDoor
open Go.RowKit
def K8 (w:World):Prop:=∃t fr,w.heap[1]?=some (.cells KX t fr)
theorem K8.lt {w:World} (h:K8 w):1<w.heap.size:=by
 obtain⟨t,fr,h⟩:=h;exact(Array.getElem?_eq_some_iff.1 h).1
theorem K8.on {w w':World} (h:K8 w) (hb:Below w.heap.size w w'):K8 w':=by
 have hl:=h.lt;obtain⟨t,fr,h⟩:=h;exact⟨t,fr,(hb.block 1 hl).trans h⟩
theorem K8.alloc {w:World} (h:K8 w) (o:Obj):K8 (w.alloc o):=h.on ((Below.refl _ _).alloc (Nat.le_refl _) _)
theorem VK:∀k,k<19→∀w:World,(Instr.index 189 (.agg KX) (.int .i64 (k:Nat))).run Tryz.prog w=.ok (.string ⟨(Bn.getD k []).toArray⟩) w:=by
 intro k hk w;have h:k=0∨k=1∨k=2∨k=3∨k=4∨k=5∨k=6∨k=7∨k=8∨k=9∨k=10∨k=11∨k=12∨k=13∨k=14∨k=15∨k=16∨k=17∨k=18:=by omega
 rcases h with rfl|rfl|rfl|rfl|rfl|rfl|rfl|rfl|rfl|rfl|rfl|rfl|rfl|rfl|rfl|rfl|rfl|rfl|rfl;all_goals(refine Eq.trans ?_ rfl;kernel_rfl)
theorem Xx {k:Nat} (hk:k<19):Bn[k]?=some (Bn.getD k []):=by
 rw[List.getD_eq_getElem?_getD,List.getElem?_eq_getElem (show k<Bn.length from hk)];rfl
theorem QBs {l:List UInt8} (h:(Bn.take 19).find? (fun t=>t.isPrefixOf l)=none):Du l=.no 3:=by
 unfold Du Eu;rw[show Bn.take 19=Bn from rfl]at h;rw[h]
theorem QDj {l:List UInt8} {L:List (List UInt8)} {k:Nat} {t:List UInt8} (ht:L[k]?=some t) (h:(L.take k).find? (fun t=>t.isPrefixOf l)=none) (hp:Lib.hasPrefix l t=false):(L.take (k+1)).find? (fun t=>t.isPrefixOf l)=none:=by
 rw[List.take_add_one,ht,List.find?_append,h];unfold Lib.hasPrefix at hp;simp[hp]
theorem QBt {l:List UInt8} {L:List (List UInt8)} {k:Nat} {t:List UInt8} (ht:L[k]?=some t) (h:(L.take k).find? (fun t=>t.isPrefixOf l)=none) (hp:Lib.hasPrefix l t=true):L.find? (fun t=>t.isPrefixOf l)=some t:=by
 have e2:L=L.take (k+1)++L.drop (k+1):=by rw[List.take_append_drop]
 unfold Lib.hasPrefix at hp;rw[e2,List.take_add_one,ht,List.find?_append,List.find?_append,h];simp[hp]
theorem QDk {l:List UInt8} {k:Nat} (hk:k<19) (h:(Bn.take k).find? (fun t=>t.isPrefixOf l)=none) (hp:Lib.hasPrefix l (Bn.getD k [])=false):(Bn.take (k+1)).find? (fun t=>t.isPrefixOf l)=none:=QDj (Xx hk) h hp
theorem QBu {l:List UInt8} {k:Nat} (hk:k<19) (h:(Bn.take k).find? (fun t=>t.isPrefixOf l)=none) (hp:Lib.hasPrefix l (Bn.getD k [])=true):Du l=⟨0,3,Bn.getD k [],0⟩:=by
 unfold Du Eu;rw[QBt (Xx hk) h hp]
set_option maxHeartbeats 2000000 in
theorem Zs (s:ByteArray) (w:World) (hw:K8 w):Calls Tryz.prog 133 #[.string s] w (K7 (Du s.data.toList) w):=by
 have hix:=VK;obtain⟨tt,fr,hg⟩:=(hw.alloc (.cells #[.int .i64 0,.string ⟨#[]⟩,.int .i64 0,.int .i64 0] 67))
 have HG:=AA hg;have HX:=AA hix;clear hg hix;go_enter Tryz.func133,Tryz.ntmps133;go_wp2_with (refine wpList_load_row rfl 189 _ rfl 1 rfl tt KX fr _ HG.out Tryz.underlying189 rfl (by kernel_rfl) ?_)
 go_loop [7] (fun i=>∃k:Nat,k≤19∧i=.int .i64 k∧(Bn.take k).find? (fun t=>t.isPrefixOf s.data.toList)=none) (fun i=>19-(intOf i).toNat)
 case atStart=>exact⟨0,Nat.zero_le _,rfl,rfl⟩
 case round=>
  obtain⟨k,hk,rfl,ha⟩:=hrel;have HA:=AA ha;clear ha;by_cases hlt:k<19
  ·have hx:=HX.out k hlt;cases hp:Lib.hasPrefix s.data.toList (Bn.getD k [])with
   |true=>
    have HR:=AA (QBu hlt HA.out hp);generalize Bn.getD k []=t at *;have HP:=AA hp;clear hp;go_wp2_with fail
    refine(Tryz.strings_HasPrefix s ⟨t.toArray⟩ _).mono ?_;rw[show(ByteArray.mk t.toArray).data.toList=t from by simp,HP.out];rintro e w' ⟨rfl,rfl⟩;go_wp2_with fail
    exact bodyPost_ret (v:=.tuple #[.agg #[.int .i64 3,.string ⟨t.toArray⟩,.int .i64 0,.int .i64 0],.int .i64 0]) (by simp[results,Tryz.results133,go_sem]) rfl (DF (c':=⟨0,3,t,0⟩) rfl HR.out ((Below.refl _ _).alloc (Nat.le_refl _) _))
   |false=>
    have HR:=AA (QDk hlt HA.out hp);generalize Bn.getD k []=t at *;have HP:=AA hp;clear hp;go_wp2_with fail
    refine(Tryz.strings_HasPrefix s ⟨t.toArray⟩ _).mono ?_;rw[show(ByteArray.mk t.toArray).data.toList=t from by simp,HP.out];rintro e w' ⟨rfl,rfl⟩;go_wp2_with fail
    go_round;case rel=>exact⟨k+1,by omega,by go_num,HR.out⟩
    case measure=>simp[intOf];omega
  ·obtain rfl:k=19:=by omega
   have HR:=AA (QBs HA.out);go_wp2_with fail
   exact bodyPost_ret (v:=.tuple #[.agg #[.int .i64 0,.string ⟨#[]⟩,.int .i64 0,.int .i64 0],.int .i64 3]) (by simp[results,Tryz.results133,go_sem]) rfl (DF (c':=.no 3) rfl HR.out ((Below.refl _ _).alloc (Nat.le_refl _) _))
theorem QBv (s:ByteArray) (h:0<s.size):Ag s.data.toList=if Et s[0]=true then Di s.data.toList else if digB s[0]=true then FZ s.data.toList else Du s.data.toList:=by
 have e:=drop_at s 0 h;rw[List.drop_zero]at e;rw[e];rfl
set_option maxHeartbeats 2000000 in
theorem first_any (s:ByteArray) (w:World) (hs:s.size≤100000) (h0:0<s.size) (hw:K8 w):Calls Tryz.prog 75 #[.string s] w (K7 (Ag s.data.toList) w):=by
 have hC:=QBv s h0;have HW:=AA (hw.alloc (.cells #[.int .i64 0,.string ⟨#[]⟩,.int .i64 0,.int .i64 0] 67));cases h1:Et (s[0]'h0)with
 |true=>
  rw[h1,if_pos rfl]at hC;rw[hC];have H1:=AA h1;clear h1 hC;generalize hc:Di s.data.toList=c;have HC:=AA hc;clear hc;go_enter Tryz.func75,Tryz.ntmps75;go_wp2_with fail
  refine(Ey _ _).mono ?_;rw[H1.out];rintro e w' ⟨rfl,rfl⟩;go_wp2_with fail
  refine(QBp s _ hs).mono ?_;rw[HC.out];rintro e w1 ⟨rfl,hb⟩;obtain⟨hc,hf⟩:=EB hb;go_wp2_with fail
  exact bodyPost_ret (v:=.tuple #[.agg #[.int .i64 c.kind,.string ⟨c.text.toArray⟩,.int .i64 c.n,.int .i64 0],.int .i64 c.err]) (by simp[results,Tryz.results75,go_sem,hc]) rfl (DF rfl rfl (F7 hb _ _ _ _))
 |false=>
  cases h2:digB (s[0]'h0)with
  |true=>
   rw[h1,if_neg (by simp),h2,if_pos rfl]at hC;rw[hC];have H1:=AA h1;have H2:=AA h2;clear h1 h2 hC;generalize hc:FZ s.data.toList=c;have HC:=AA hc;clear hc;go_enter Tryz.func75,Tryz.ntmps75;go_wp2_with fail
   refine(Ey _ _).mono ?_;rw[H1.out];rintro e w' ⟨rfl,rfl⟩;go_wp2_with fail
   refine(JS _ _).mono ?_;rw[H2.out];rintro e w' ⟨rfl,rfl⟩;go_wp2_with fail
   refine(W8 s _ hs).mono ?_;rw[HC.out];rintro e w1 ⟨rfl,hb⟩;obtain⟨hc,hf⟩:=EB hb;go_wp2_with fail
   exact bodyPost_ret (v:=.tuple #[.agg #[.int .i64 c.kind,.string ⟨c.text.toArray⟩,.int .i64 c.n,.int .i64 0],.int .i64 c.err]) (by simp[results,Tryz.results75,go_sem,hc]) rfl (DF rfl rfl (F7 hb _ _ _ _))
  |false=>
   rw[h1,if_neg (by simp),h2,if_neg (by simp)]at hC;rw[hC];have H1:=AA h1;have H2:=AA h2;clear h1 h2 hC;generalize hc:Du s.data.toList=c;have HC:=AA hc;clear hc;go_enter Tryz.func75,Tryz.ntmps75;go_wp2_with fail
   refine(Ey _ _).mono ?_;rw[H1.out];rintro e w' ⟨rfl,rfl⟩;go_wp2_with fail
   refine(JS _ _).mono ?_;rw[H2.out];rintro e w' ⟨rfl,rfl⟩;go_wp2_with fail
   refine(Zs s _ HW.out).mono ?_;rw[HC.out];rintro e w1 ⟨rfl,hb⟩;obtain⟨hc,hf⟩:=EB hb;go_wp2_with fail
   exact bodyPost_ret (v:=.tuple #[.agg #[.int .i64 c.kind,.string ⟨c.text.toArray⟩,.int .i64 c.n,.int .i64 0],.int .i64 c.err]) (by simp[results,Tryz.results75,go_sem,hc]) rfl (DF rfl rfl (F7 hb _ _ _ _))
theorem W9 (s p:ByteArray) (w:World):Calls Tryz.prog 72 #[.string s,.string p] w (Lj (Lib.hasPrefix s.data.toList p.data.toList) w):=
 (Tryz.strings_HasPrefix s p w).mono fun _ _ h=>⟨h.1,h.2.symm⟩
set_option maxRecDepth 100000 in
set_option maxHeartbeats 4000000 in
theorem QBw (s:ByteArray) (w:World) (hs:s.size≤4000) (hw:K8 w):Calls Tryz.prog 21 #[.string s] w (SV (AS s.data.toList 0) w):=by
 obtain⟨i0,hi,hz0,hz1,hz2⟩:=info_parts info31;have HZ:=AA (show Tryz.prog.info? 67=some i0∧i0.zero=some (.agg #[.int .i64 0,.string ⟨#[]⟩,.int .i64 0,.int .i64 0])∧i0.size=4∧i0.bytes=40 from⟨hi,hz0,hz1,hz2⟩);have HW:=AA hw;clear hi hz0 hz1 hz2 hw;have hs1:decide ((4000:Int)<(s.size:Int))=false:=by simp;omega
 go_enter Tryz.func21,Tryz.ntmps21;go_wp2_with fail
 go_step3
 go_wp2_with fail
 go_step3
 go_wp2_with fail
 go_loopw [5,6,7] (fun v i e wr=>∃(k:Nat) (L:List Tok),k≤s.size∧i=.int .i64 k∧e=.int .i64 0∧Lo wr w.heap.size v L∧Below w.heap.size w wr∧L.length≤k∧(AS (s.data.toList.drop k) k).pre L=AS s.data.toList 0) (fun _ i _ _=>s.size-(intOf i).toNat)
 case atStart=>exact⟨0,[],Nat.zero_le _,rfl,rfl,SZ _ _,Below.refl _ _,Nat.le_refl _,by rw[List.drop_zero];exact pre_nil _ (Gk _ _).1 (Gk _ _).2⟩
 case round=>
  obtain⟨k,L,hk,rfl,rfl,hown,hbel,hlen,hinv⟩:=hrel;have HI:=AA hinv;have HO:=AA hown;have HB:=AA hbel;clear hinv hown hbel;by_cases hlt:k<s.size
  ·have HD:=AA (drop_at s k hlt);obtain⟨hz,h0,hc⟩:=QCt s k hlt;have HE:=AA (extract_drop s k);have HC:=AA hc;have HZ2:=AA hz;clear hc hz;cases hb:Es (s[k]'hlt)with
   |true=>
    have HS:=AA (YE HD.out hb HI.out);have Hb:=AA hb;clear hb;go_wp2_with fail
    refine(LY _ _).mono ?_;rw[HC.out,Hb.out];rintro e w' ⟨rfl,rfl⟩;go_wp2_with fail
    go_roundw;case rel=>exact⟨k+1,L,by omega,by go_num,rfl,HO.out,HB.out,by omega,HS.out⟩
    case measure=>simp[intOf];omega
   |false=>
    cases hr:EF (s.data.toList.drop k)with
    |true=>
     have HS:=AA (QCp HD.out hb hr HI.out);have hl1:=QAO IF (s.data.toList.drop k);have hl2:1≤((s.data.toList.drop k).takeWhile IF).length:=by rw[HD.out]at hr⊢;exact Of hr
     rw[List.length_drop,GP]at hl1;have Hb:=AA hb;have Hr:=AA hr;clear hb hr;generalize hm:(s.data.toList.drop k).takeWhile IF=m at *;have HM:=AA hm;clear hm;go_wp2_with fail
     refine(LY _ _).mono ?_;rw[HC.out,Hb.out];rintro e w' ⟨rfl,rfl⟩;go_wp2_with fail
     refine(W9 _ _ _).mono ?_;rw[HE.out,show Lib.hasPrefix (s.data.toList.drop k) (ByteArray.mk #[47,47]).data.toList=true from Hr.out];rintro e w' ⟨rfl,rfl⟩;go_wp2_with fail
     refine(W7 _ _ (by rw[HZ2.out];omega)).mono ?_;rw[HE.out,HM.out];rintro e w' ⟨rfl,rfl⟩;go_wp2_with fail
     go_roundw;case rel=>exact⟨k+m.length,L,by omega,by go_num,rfl,HO.out,HB.out,by omega,HS.out⟩
     case measure=>simp[intOf];omega
    |false=>
     by_cases he:(Ag (s.data.toList.drop k)).err=0
     ·have HS:=AA (QCq HD.out hb hr he HI.out);have hok:=NZ he;have hl1:=hok.1.length_le;have hl2:=hok.2;rw[List.length_drop,GP]at hl1;have Hb:=AA hb;have Hr:=AA hr;have he2:((Ag (s.data.toList.drop k)).err != 0)=false:=by simpa using he
      have He:=AA he;clear hb hr hok he;generalize hm:Ag (s.data.toList.drop k)=m at *;have HM:=AA hm;clear hm;go_wp2_with fail
      refine(LY _ _).mono ?_;rw[HC.out,Hb.out];rintro e w' ⟨rfl,rfl⟩;go_wp2_with fail
      refine(W9 _ _ _).mono ?_;rw[HE.out,show Lib.hasPrefix (s.data.toList.drop k) (ByteArray.mk #[47,47]).data.toList=false from Hr.out];rintro e w' ⟨rfl,rfl⟩;go_wp2_with fail
      refine(first_any _ _ (by rw[HZ2.out];omega) h0 (by exact(HW.out.on HB.out).alloc _)).mono ?_;rw[HE.out,HM.out];rintro e w1 ⟨rfl,hb⟩;obtain⟨hc,hf⟩:=EB hb;have hz3:wr.heap.size+1≤w1.heap.size:=by have:=hb.size;simpa using this
      go_upto_region 11 with(fail)
      have hbx:=Vg hb (.int .i64 m.kind) (.string ⟨m.text.toArray⟩) (.int .i64 m.n) (.int .i64 0) (.int .i64 k);clear hc hf hb;change Code.wp _ _ _ _ (SX w1 wr.heap.size (.int .i64 m.kind) (.string ⟨m.text.toArray⟩) (.int .i64 m.n) (.int .i64 0) (.int .i64 k));generalize SX w1 wr.heap.size (.int .i64 m.kind) (.string ⟨m.text.toArray⟩) (.int .i64 m.n) (.int .i64 0) (.int .i64 k)=W2 at *;obtain⟨x0,x1,x2,x3,hbw,hsz⟩:=hbx;have HBW:=AA hbw;clear hbw hz3
      go_wp2_with (at_builtin;refine wpList_append_own _ rfl (.tmp 29) (.tmp 31) 53 rfl w.heap.size 67 i0 (.agg #[.int .i64 0,.string ⟨#[]⟩,.int .i64 0,.int .i64 0]) 4 40 Tryz.underlying53 HZ.out.1 HZ.out.2.1 HZ.out.2.2.1 HZ.out.2.2.2 rfl (by decide) _ L.length (EG L) rfl ?cO ⟨W2.heap.size,0,none⟩ 1 1 (BK ⟨m.kind,m.text,m.n,k⟩) rfl rfl ?c1 ?c2 ?c3 ?c4 ?c5 ?_)
      case cO=>exact QEc HO.out (HBW.out.alloc (by omega) _)
      case c1=>exact YF ⟨m.kind,m.text,m.n,k⟩
      case c2=>exact QCu _
      case c3=>unfold maxLen;omega
      case c4=>omega
      case c5=>have:=HB.out.size;simp;omega
      intro v' w3 hown' hgrow _;have R:=SY (t:=⟨m.kind,m.text,m.n,k⟩) HO.out HB.out HBW.out hsz hown' hgrow;have y1:=R.2.2 1 _ x1;have HR:=AA R;clear hown' hgrow R x0 x1 x2 x3;go_wp2_with fail
      go_roundw;case rel=>exact⟨k+m.text.length,_,by omega,by go_num,by rw[He.out],HR.out.1,HR.out.2.1,by simp;omega,HS.out⟩
      case measure=>simp[intOf];omega
     ·have HS:=AA (QCr HD.out hb hr he HI.out);have Hb:=AA hb;have Hr:=AA hr;have he2:((Ag (s.data.toList.drop k)).err != 0)=true:=by simpa using he
      clear hb hr;generalize hm:Ag (s.data.toList.drop k)=m at *;have HM:=AA hm;clear hm;go_wp2_with fail
      refine(LY _ _).mono ?_;rw[HC.out,Hb.out];rintro e w' ⟨rfl,rfl⟩;go_wp2_with fail
      refine(W9 _ _ _).mono ?_;rw[HE.out,show Lib.hasPrefix (s.data.toList.drop k) (ByteArray.mk #[47,47]).data.toList=false from Hr.out];rintro e w' ⟨rfl,rfl⟩;go_wp2_with fail
      refine(first_any _ _ (by rw[HZ2.out];omega) h0 (by exact(HW.out.on HB.out).alloc _)).mono ?_;rw[HE.out,HM.out];rintro e w1 ⟨rfl,hb⟩;obtain⟨hc,hf⟩:=EB hb;have hz3:wr.heap.size+1≤w1.heap.size:=by have:=hb.size;simpa using this
      go_wp2_with fail
      rw[Exit.noGoto_ret]
      go_ret3
      exact Nb rfl HS.out (SZ _ _) (HB.out.trans ((F7 hb _ _ _ _).mono HB.out.size))
  ·have HS:=AA (QCs (by rw[GP];omega) HI.out);go_wp2_with fail
   rw[Exit.noGoto_ret]
   go_ret3
   exact Nb rfl HS.out HO.out HB.out
end Go.Proofs.YthfkpalfopdmhaaGreatDoor
namespace Go.Proofs.YthfkpalfopdmhaaGreatDoor
open Go.RowKit Go.Shelf
attribute [local go_sem] Oper.semAt_some
theorem DW.len {u v:List UInt8} (h:DW u v):v.length≤3*u.length:=by
 obtain⟨rows,_,rfl,rfl⟩:=h
 induction rows with
 |nil=>simp
 |cons r l ih=>
  have ih':=ih (fun x hx=>by rename_i hh;exact hh x (List.mem_cons_of_mem _ hx));simp only[List.flatMap_cons,List.length_append,DZ,List.length_cons,List.length_nil]at ih'⊢;omega
theorem QB6 {B b L:Nat} {bs:List Value} {w w':World} {cs:Array Value} {T:TypeId} (h:Lib.IsBuilder 93 5 B b bs w) (hk:AG (fun q=>q=L) w w') (hL:w.heap[L]?=some (.cells cs T (0,0))) (h1:T≠93) (h2:T≠5):Lib.IsBuilder 93 5 B b bs w':=by
 have key:∀p,Lib.BuilderAt 93 5 B b p bs w→Lib.BuilderAt 93 5 B b p bs w':=by
  rintro p ⟨k1,v,k2,k3,k4⟩;have hlt:b<w.heap.size:=(Array.getElem?_eq_some_iff.1 k2).1;have hbL:b≠L:=fun e=>by subst e;rw[hL]at k2;simp at k2;exact h1 k2.2
  refine⟨k1,v,by rw[hk.block b hlt hbL];exact k2,AW k3 hk (fun q hq e=>?_),k4⟩;subst e;obtain⟨_,cs',hh⟩:=AM k3 q hq;rw[hL]at hh;simp at hh;exact h2 hh.2
 rcases h with h|h
 ·exact .inl (key _ h)
 ·exact .inr (key _ h)
def IE (d:List (List UInt8)):List UInt8:=[32,123,10]++d.flatMap (fun r=>[32,32]++DZ r)
structure JL (w:World) (L:Nat) (s:StL) (W:World):Prop where
 at':AtL L s W
 bld:Lib.IsBuilder 93 5 (w.heap.size+1) (w.heap.size+1) (Lib.byteCells (IE s.2)) W
 low:Below w.heap.size w W
theorem JL.put {w:World} {L:Nat} {s:StL} {W:World} (h:JL w L s W) {k:Nat} {o:Obj} (o':Obj) (hw:w.heap.size≤k) (hk:W.heap[k]?=some o) (ho:o.isCells=false):JL w L s (W.putObj k o'):=by
 have key:∀(q:Nat) (o2:Obj),W.heap[q]?=some o2→o2.isCells=true→(W.putObj k o').heap[q]?=some o2:=fun q o2 h2 hc=>by
  refine(World.putObj_heap_other (fun e=>?_)).trans h2;subst e;rw[hk]at h2;cases h2;rw[ho]at hc;cases hc
 have kb:∀p,Lib.BuilderAt 93 5 (w.heap.size+1) (w.heap.size+1) p (Lib.byteCells (IE s.2)) W→Lib.BuilderAt 93 5 (w.heap.size+1) (w.heap.size+1) p (Lib.byteCells (IE s.2)) (W.putObj k o'):=by
  rintro p ⟨h1,v,h2,⟨h3,h4⟩,h5⟩;refine⟨h1,v,key _ _ h2 rfl,⟨h3,?_⟩,h5⟩;rcases h4 with h|⟨g,cap,cur,q1,q2,q3,q4⟩
  ·exact .inl h
  ·exact .inr ⟨g,cap,cur,q1,q2,key _ _ q3 rfl,q4⟩
 refine⟨key _ _ h.at' rfl,?_,h.low.grown (grownBy_putObj' W k o') h.low.size (fun q e=>by cases e;exact hw)⟩;rcases h.bld with h|h
 ·exact .inl (kb _ h)
 ·exact .inr (kb _ h)
theorem JL.move {w:World} {L:Nat} {s s':StL} {W W':World} (h:JL w L s W) (hL:w.heap.size≤L) (hm:MvL L s W s' W'):JL w L s' W':=by
 obtain⟨h1,h2,h3⟩:=hm;refine⟨h3,?_,h.low.trans (h2.below (fun k hk e=>by omega) h.low.size)⟩;rw[h1];exact QB6 h.bld h2 h.at' (by decide) (by decide)
theorem VV {b:Nat} {W W':World} (h:Lib.OthersKept 5 (some b) W W') {c:Array Value} {T:TypeId} {fz:Nat×Nat} (hb:W.heap[b]?=some (.cells c T fz)) (hs:W.heap.size≤W'.heap.size):KeepsOthers W W':=
 ⟨hs,fun k o hk ho=>h k o hk (fun e=>by cases e;rw[hb]at hk;cases hk;cases ho) (fun c fz e=>by subst e;cases ho)⟩
theorem IZ {B b:Nat} {bs:List Value} {w:World} (h:Lib.IsBuilder 93 5 B b bs w):∃c,w.heap[b]?=some (.cells c 93 (0,0)):=by
 rcases h with⟨_,v,h,_⟩|⟨_,v,h,_⟩<;>exact⟨_,h⟩
theorem Z1 (d:List (List UInt8)) (x:List UInt8):IE (d++[x])=IE d++([32,32]++DZ x):=by
 simp[IE]
theorem JL.next {w:World} {L n:Nat} {rows:List (List UInt8)} {s s':StL} {x:List UInt8} {W W':World} {e:Ending} (h:JL w L s W) (hL:w.heap.size+1<L) (hx:NxL rows s x s')
  (hw:TM (w.heap.size+1) (w.heap.size+1) n (IE s.2++([32,32]++DZ x)) W e W'):KeepsOthers W W'∧JL w L s' W':=by
 obtain⟨rfl,hr⟩:=hx;obtain⟨_,h1,h2,h3⟩:=hw;obtain⟨c,hb⟩:=IZ h.bld;refine⟨VV h3 hb h2.size,?_,?_,h.low.trans (h2.mono (by omega))⟩
 ·exact h3 _ _ h.at' (fun e=>by cases e;omega) (fun c fz e=>by cases e)
 ·show Lib.IsBuilder 93 5 _ _ (Lib.byteCells (IE (s.2++[x]))) W';rw[Z1];exact h1
set_option maxRecDepth 100000 in
set_option maxHeartbeats 8000000 in
theorem Qi {x:Tv} {w:World} {B:Nat} {b:Bool} (hR:C9 w B x.vR x.t.regs) (hB:Fh w B x.vB x.t.body) (hok:Bh b x.t=true) (hT:Tabs w) (hn:x.t.regs.length≤1000000) (hj:(FY x.t.regs).length≤1000000):
  Calls Tryz.prog 59 #[.agg #[.string ⟨x.t.name.toArray⟩,x.vR,x.vB,.int .i64 x.t.pl]] w (CE (Bf [] x.t) w):=by
 obtain⟨⟨name,regs,body,pl⟩,vR,vB⟩:=x;simp only at *;obtain⟨rows,hnl,hU,hV⟩:=VU hok;have hs:CH body=true:=by
  unfold Bh at hok;simp only[Bool.and_eq_true]at hok;exact hok.1.2
 have hsm:=NT hs;have hU1:GF Ir regs=QDm regs:=by unfold GF QDm;rw[Qg]
 have hU2:GF Ir regs++showS body=KH rows:=by rw[hU1];exact hU
 have hl1:(GF Ir regs).length≤1000010:=by
  unfold GF;split
  ·simp
  ·simp only[List.length_append,List.length_cons,List.length_nil];have:Ir.length=3:=rfl;omega
 have hl2:(showS body).length≤1000000:=by
  obtain⟨k,hk,hg,hc,_,_,_⟩:=DX hs;rw[←hk,Ko hg.1 (by rw[hk];exact hs)];exact Kv hg hc (by simp)
 have hlU:(KH rows).length≤2000010:=by rw[←hU2,List.length_append];omega
 have hlV:=DW.len ⟨rows,hnl,hU,hV⟩;rw[hU]at hlV;have hlV2:(rows.flatMap (fun r=>[32,32]++DZ r)).length≤6000030:=by rw[←hV];unfold KH at hlU;omega
 have HE:Hid (Bf [] ⟨name,regs,body,pl⟩=IE rows++[125,10]):=AA (by
  unfold Bf IE;rw[←hV];simp)
 have HLV:=AA hlV2;have HLU:=AA hlU;have HNL:=AA hnl;have HU2:=AA hU2;have HSM:=AA hsm;have HT:=AA hT;have HR:=AA hR;have HS:=AA hB.read;have HN:=AA hn;have HJ:=AA hj;have hcat:¬(9223372036854775807<(GF Ir regs).length+(showS body).length):=by omega
 obtain⟨A1,c1,rfl, -⟩:=hR.reads;obtain⟨A2,c2,rfl⟩:=hB.slice;clear hl1 hl2 hlU hlV hlV2 hU hU1 hU2 hV hnl hs hsm hok hT hB hR hn hj;have HF:=AA (Lib.fresh_isBuilder 93 5 (w.alloc (.cells #[.string ⟨name.toArray⟩,.slice A1 regs.length c1,.slice A2 body.length c2,.int .i64 pl] 41)));refine(callsIn_wide (n:=3)).1 ?_;refine callsIn_of_wp_marks Tryz.func59 rfl trivial ?_ rfl;simp only[Tryz.ntmps59,List.size_toArray,List.length_cons,List.length_nil,Nat.reduceAdd,Nat.reduceSub,Array.replicate_succ,Array.replicate_zero,List.push_toArray,List.append_toArray,List.nil_append,List.cons_append]
 gi_wp2_with (fail)
 have hz0:(w.alloc (.cells #[.string ⟨name.toArray⟩,.slice A1 regs.length c1,.slice A2 body.length c2,.int .i64 pl] 41)).heap.size=w.heap.size+1:=by simp
 rw[hz0]at HF;have N1:=AA (((Below.refl (w.heap.size+1) _).alloc (by rw[hz0];exact Nat.le_refl _) (.cells #[.pointer none,.slice none 0 0] 93)).block w.heap.size (by omega) |>.trans (heap_alloc_new w (.cells #[.string ⟨name.toArray⟩,.slice A1 regs.length c1,.slice A2 body.length c2,.int .i64 pl] 41)));have HB0:=AA (BC w (.cells #[.string ⟨name.toArray⟩,.slice A1 regs.length c1,.slice A2 body.length c2,.int .i64 pl] 41) (.cells #[.pointer none,.slice none 0 0] 93))
 have hz2:w.heap.size+1≤((w.alloc (.cells #[.string ⟨name.toArray⟩,.slice A1 regs.length c1,.slice A2 body.length c2,.int .i64 pl] 41)).alloc (.cells #[.pointer none,.slice none 0 0] 93)).heap.size:=by simp
 generalize(w.alloc (.cells #[.string ⟨name.toArray⟩,.slice A1 regs.length c1,.slice A2 body.length c2,.int .i64 pl] 41)).alloc (.cells #[.pointer none,.slice none 0 0] 93)=X at *;refine⟨trivial,(callsIn_wide.2 (EX (w.heap.size+1) (w.heap.size+1) [] [32,123,10] _ HF.out (by simp) hz2)).mono ?_⟩;rintro e1 w1 ⟨rfl,hd,hb,ho⟩;have N2:=ho _ _ N1.out (by simp) (by intro c fz e;cases e);have HB1:=AA (HB0.out.trans (hb.mono (by omega)));have HD1:=AA hd;have x1:w1.cell? ⟨w.heap.size,1,none⟩=some (.slice A1 regs.length c1):=by rw[Lib.cell_of_heap N2];rfl
 have x2:w1.cell? ⟨w.heap.size,2,none⟩=some (.slice A2 body.length c2):=by rw[Lib.cell_of_heap N2];rfl
 have HC1:=AA (fun W' (h:Below w1.heap.size w1 W')=>LC Ir (HR.out.on (AC HB1.out h)) (Nat.le_trans HJ.out (by decide)) HN.out (by decide));have HC2:=AA (fun W' (h:Below w1.heap.size w1 W')=>ZI _ _ W' (HS.out.on (AC HB1.out h)) HSM.out (HT.out.on (AC HB1.out h)));have hmx:Tryz.prog.follows .mixedOrders=true:=by kernel_rfl
 clear hz0 hd hb ho hz2 N1 HB0 HF;have HN2:=AA N2;have hlt:=(Array.getElem?_eq_some_iff.1 N2).1;clear N2;generalize GF Ir regs=U1 at *;generalize showS body=U2 at *
 gi_wp2_with (fail)
 refine wpIn_mono (Q:=NoPanic _) ?_ NoPanic.imp
 gi_region_with_o (refine⟨trivial,?_⟩;first
  |(gi_at_call 57;refine(callsIn_wide.2 (HC1.out _ (by first|exact Below.refl _ _|exact AD _))).mono ?_;rintro e2 w2 ⟨rfl,hb2⟩;have y2:w2.cell? ⟨w.heap.size,2,none⟩=some (.slice A2 body.length c2):=(by rw[Lib.cell_of_heap ((hb2.block _ hlt).trans HN2.out)];rfl))
  |(gi_at_call 118;refine(callsIn_wide.2 (HC2.out _ (by first|exact hb2|exact AC (AD _) hb2|exact AC hb2 (AD _)|exact AC (AC (AD _) hb2) (AD _)))).mono ?_;rintro e3 w3 ⟨rfl,hb3⟩)
  |(gi_at_call 117;refine(callsIn_wide.2 (lines_any _ _)).mono ?_;rintro e4 w4 ⟨rfl,rfl⟩))
 all_goals
  refine NoPanic.normal ?_;have hb4:Below w1.heap.size w1 w3:=by first|exact AC hb2 hb3|exact AC (AC (AD _) hb2) hb3|exact AC hb2 (AC (AD _) hb3)|exact AC (AC (AD _) hb2) (AC (AD _) hb3)
  have HB4:=AA (AC HB1.out hb4);have HD4:=AA (L2 HD1.out hb4);have hU:(⟨U1.toArray⟩++⟨U2.toArray⟩:ByteArray)=⟨(KH rows).toArray⟩:=by rw[←HU2.out,Cb]
  rw[hU];have hL:=hb4.size;clear hb2 hb3 hb4 hU x1 x2 y2 HC1 HC2 HN2 HB1 HD1 HR HS HT HSM HU2;have hsz2:=hlt
  gi_wp2_with (fail)
  have hz4:(w3.alloc (.cells #[.string ⟨(KH rows).toArray⟩] 9)).heap.size=w3.heap.size+1:=by simp
  have hL2:w.heap.size+1<w3.heap.size:=by
   obtain⟨c,hb⟩:=IZ HD4.out;exact(Array.getElem?_eq_some_iff.1 hb).1
  have HL2:=AA hL2;refine XH rfl (by omega) (gf:=167) (lb:=#[.pointer (some ⟨w3.heap.size,0,none⟩)]) rfl trivial (enters_of Tryz.func167 (by kernel_rfl) rfl) (encs:=fun r:List UInt8=>#[.string ⟨(DZ r).toArray⟩]) (fun _=>rfl) (I:=JL w w3.heap.size) (Mv:=MvL w3.heap.size) (Nx:=NxL rows) (s0:=(rows,[])) (s1:=([],rows))
   (XJ _ (by omega) _ rows HNL.out (Nat.le_trans HLU.out (by decide)) _ (fun s W h=>h.at')) (fun s W s' W' h hm=>h.move (by omega) hm) ?mvo ?hI ?h0
   (fun x=>{tmps:=#[.agg #[.string ⟨name.toArray⟩,.slice A1 regs.length c1,.slice A2 body.length c2,.int .i64 pl],.pointer (some ⟨w.heap.size,0,none⟩),.string ⟨#[]⟩,.pointer (some ⟨w.heap.size+1,0,none⟩),.string ⟨(DZ x).toArray⟩,.tuple #[.int .i64 3,.nilIface],.pointer (some ⟨w.heap.size,1,none⟩),.slice A1 regs.length c1,.string ⟨U1.toArray⟩,.pointer (some ⟨w.heap.size,2,none⟩),.slice A2 body.length c2,.string ⟨U2.toArray⟩,.string ⟨(KH rows).toArray⟩,.func (.func 167) #[] #[.pointer (some ⟨w3.heap.size,0,none⟩)],.string ⟨(DZ x).toArray⟩,undef,undef,undef,undef,undef],defers:=[]}) ?assign ?body ?done
  case mvo=>
   intro s W s' W' h hm k o hk ho;refine(hm.2.1.block k (Array.getElem?_eq_some_iff.1 hk).1 (fun e=>?_)).trans hk;subst e;rw[h.at']at hk;cases hk;cases ho
  case hI=>
   intro s W k o o' h hk hh ho;exact h.put o' (by omega) hh ho
  case h0=>
   intro o1 o2;have h5:=BC (w3.alloc (.cells #[.string ⟨(KH rows).toArray⟩] 9)) o1 o2;refine⟨(h5.block _ (by rw[hz4];omega)).trans (heap_alloc_new w3 _),?_,?_⟩
   ·exact L2 (L2 HD4.out ((Below.refl w3.heap.size w3).alloc (Nat.le_refl _) _)) h5
   ·exact AC (AC HB4.out ((Below.refl w3.heap.size w3).alloc (Nat.le_refl _) _)) h5
  case assign=>
   intro l x W K hK
   gi_wp2
   exact hK
  case body=>
   rintro l ⟨s1,s2⟩ x s' W hi hx;have hbs:w.heap.size+1≤W.heap.size:=by
    obtain⟨c,hb⟩:=IZ hi.bld;exact Nat.le_of_lt (Array.getElem?_eq_some_iff.1 hb).1
   have hlen:(IE s2).length+([32,32]++DZ x).length≤1000000000:=by
    have:=HLV.out;rw[hx.2]at this;simp only[List.flatMap_append,List.flatMap_cons,List.length_append]at this;simp only[IE,List.length_append,List.length_cons,List.length_nil]at this⊢;omega
   have hll:(DZ x).length≤1000000000:=by rw[List.length_append]at hlen;omega
   have hcat:¬(9223372036854775807<2+(DZ x).length):=by omega
   have HC:=AA (Jc (w.heap.size+1) (w.heap.size+1) (IE s2) ([32,32]++DZ x) (w:=W) (Cb [32,32] (DZ x)) hi.bld hlen hbs);have HN:=AA (fun n e W' hw=>hi.next (n:=n) (e:=e) (W':=W') HL2.out hx hw);clear hi hx hbs hlen hll
   gi_wp2_with (fail)
   refine⟨trivial,(CallsIn.inRound l (callsIn_wide.2 HC.out)).mono ?_⟩;rintro e W' hw;have:=HN.out _ _ _ hw;obtain⟨rfl, -⟩:=hw
   gi_wp2_with (fail)
   exact this
  case done=>
   intro D W hD hi hK;have hD':w3.heap.size<D:=by rw[hz4]at hD;omega
   have hbs:w.heap.size+1≤W.heap.size:=by
    obtain⟨c,hb⟩:=IZ hi.bld;exact Nat.le_of_lt (Array.getElem?_eq_some_iff.1 hb).1
   have hlen:(IE rows).length+([125,10]:List UInt8).length≤1000000000:=by
    have:=HLV.out;simp only[IE,List.length_append,List.length_cons,List.length_nil]at this⊢;omega
   have HC:=AA (Jc (w.heap.size+1) (w.heap.size+1) (IE rows) [125,10] (u:=⟨#[125,10]⟩) (w:=W) rfl hi.bld hlen hbs);have HLW:=AA hi.low;have HK:=AA hK;clear hi hK hD hbs hlen
   gi_wp2_with (fail)
   refine⟨trivial,(callsIn_wide.2 HC.out).mono ?_⟩;rintro e W2 ⟨rfl,h1,h2,h3⟩;have HK2:=AA (h3 D _ HK.out (fun e=>by cases e;omega) (fun c fz e=>by cases e));have HB2:=AA (HLW.out.trans (h2.mono (by omega)));have HC2:=AA (Tryz.Builder_String_any_k (w.heap.size+1) (w.heap.size+1) _ _ (Lib.IsBuilderF.of h1) (Nat.le_trans (Nat.le_of_lt (by obtain⟨c,hb⟩:=IZ h1;exact(Array.getElem?_eq_some_iff.1 hb).1)) (Nat.le_refl _)));clear h1 h2 h3
   gi_wp2_with (fail)
   refine⟨trivial,(callsIn_wide.2 HC2.out).mono ?_⟩;rintro e W4 ⟨rfl, -,h5,h6⟩;have hK4:=h6 D _ HK2.out (fun e=>by cases e;omega) (fun c fz e=>by cases e);have HB4':=AA (HB2.out.trans (h5.mono (by omega)));clear h5 h6
   gi_wp2_with (fail)
   refine⟨by simp,.inl ⟨_,_,rfl,run_takeDeferred hK4,?_⟩⟩;refine⟨_,results_tmp rfl _ _ _,Bv rfl HE.out.symm (HB4'.out.trans (belowK_b (w:=w) (Nat.le_refl _) W4 D _ _ (by omega) hK4 rfl rfl))⟩
end Go.Proofs.YthfkpalfopdmhaaGreatDoor
namespace Go.Proofs.YthfkpalfopdmhaaGreatDoor
open Go.RowKit
set_option maxRecDepth 100000 in
set_option maxHeartbeats 4000000 in
theorem eqC {K M:List Cel} {v1 v2:Value} {w:World} {B1 B2:Nat} (q:Cel→Cel→Bool) (h1:CX w B1 v1 K) (h2:CX w B2 v2 M) (hl:K.length≤10000)
  (hF:∀a∈K,∀b∈M,∀w',Below w.heap.size w w'→Calls Tryz.prog 124 #[.agg #[.string ⟨a.name.toArray⟩,.int .i64 a.n,.int .i64 a.pl],.agg #[.string ⟨b.name.toArray⟩,.int .i64 b.n,.int .i64 b.pl]] w' (AN (q a b) w')):Calls Tryz.prog 123 #[v1,v2,.func (.func 124) #[] #[]] w (AN (Ad q K M) w):=by
 have HR1:=AA h1;have HR2:=AA h2;have HF:=AA hF;obtain⟨A,c,rfl,hc,hm1,hr1⟩:=h1.reads;obtain⟨A',c',rfl,hc',hm2,hr2⟩:=h2.reads;clear hr1 hr2 hF h1 h2;by_cases hL:K.length=M.length
 ·rw[←hL]at HR2 hc'⊢;have HL:=AA hL;have HM:=AA (show∀k,k<K.length→k<M.length by rw[hL];exact fun _ h=>h);clear hL;go_enter Tryz.func123,Tryz.ntmps123;go_wp2_with fail
  go_loopw [17] (fun i wr=>∃k:Nat,k≤K.length∧i=.int .i64 k∧Below w.heap.size w wr∧Ad q (K.take k) (M.take k)=true) (fun i _=>K.length-(intOf i).toNat)
  case atStart=>exact⟨0,Nat.zero_le _,rfl,Below.refl _ _,rfl⟩
  case round=>
   obtain⟨k,hk,rfl,hbel,hs⟩:=hrel;have HS:=AA hs;have HB:=AA hbel;have hsz:=hbel.size;clear hs;by_cases hlt:k<K.length
   ·have hkm:=HM.out k hlt;have ha:K[k]?=some K[k]:=List.getElem?_eq_getElem hlt;have hb:M[k]?=some (M[k]'hkm):=List.getElem?_eq_getElem hkm
    generalize K[k]=a at *;generalize M[k]'hkm=b at *
    have HC:=AA (fun w' (h':Below wr.heap.size wr w')=>HF.out a (List.mem_of_getElem? ha) b (List.mem_of_getElem? hb) w' (AC HB.out h'));obtain⟨A2,c2,hv,_,_,hr⟩:=(HR1.out.on hbel).reads;obtain⟨rfl,_,rfl⟩:A=A2∧True∧c=c2:=by simpa using hv
    obtain⟨A2',c2',hv',_,_,hr'⟩:=(HR2.out.on hbel).reads;obtain⟨rfl,rfl⟩:A'=A2'∧c'=c2':=by simp only[Value.slice.injEq]at hv';exact⟨hv'.1,hv'.2.2⟩
    obtain⟨g,rfl, -,hg,x0,x1,x2⟩:=hr k a ha;obtain⟨g',rfl, -,hg',y0,y1,y2⟩:=hr' k b hb;have HN:=AA (fun h=>DN (q:=q) ha hb h);have HY:=AA (CB (q:=q) ha hb);clear ha hb hr hr' hv hv' hbel;cases e1:q a b with
    |false=>
     have HE:=AA e1;clear e1;go_wp2_with fail
     refine(HC.out _ (BC _ _ _)).mono ?_;rw[HE.out];rintro e w1 ⟨rfl,hb⟩;have HB2:=AA (((HB.out.alloc hsz _).alloc (by simp;omega) _).trans (hb.mono (by simp;omega)));clear hb;go_wp2_with fail
     go_ret;exact⟨AH (HN.out HE.out).symm,HB2.out⟩
    |true=>
     have HE:=AA e1;clear e1;go_wp2_with fail
     refine(HC.out _ (BC _ _ _)).mono ?_;rw[HE.out];rintro e w1 ⟨rfl,hb⟩;have HB2:=AA (((HB.out.alloc hsz _).alloc (by simp;omega) _).trans (hb.mono (by simp;omega)));clear hb;go_wp2_with fail
     go_roundw;case rel=>exact⟨k+1,by omega,by go_num,HB2.out,by rw[HY.out,HS.out,HE.out];rfl⟩
     case measure=>simp[intOf];omega
   ·have HQ:=AA (Cf (q:=q) (by omega) HL.out HS.out);clear hbel;go_wp2_with fail
    go_ret;exact⟨AH HQ.out.symm,HB.out⟩
 ·have HQ:=AA (Ce (q:=q) hL);have hd:((K.length:Int) != (M.length:Int))=true:=by simp;omega
  clear hL;go_enter Tryz.func123,Tryz.ntmps123;go_wp2_with fail
  go_ret;exact⟨AH HQ.out.symm,Below.refl _ _⟩
set_option maxRecDepth 100000 in
set_option maxHeartbeats 4000000 in
theorem eqT {K M:List Tv} {v1 v2:Value} {w:World} {B1 B2:Nat} (q:Tv→Tv→Bool) (h1:DY w B1 v1 K) (h2:DY w B2 v2 M) (hl:K.length≤10000)
  (hF:∀a∈K,∀b∈M,∀w',Below w.heap.size w w'→Calls Tryz.prog 68 #[.agg #[.string ⟨a.t.name.toArray⟩,a.vR,a.vB,.int .i64 a.t.pl],.agg #[.string ⟨b.t.name.toArray⟩,b.vR,b.vB,.int .i64 b.t.pl]] w' (AN (q a b) w')):Calls Tryz.prog 67 #[v1,v2,.func (.func 68) #[] #[]] w (AN (Ad q K M) w):=by
 have HR1:=AA h1;have HR2:=AA h2;have HF:=AA hF;obtain⟨A,c,rfl,hc,hm1,hr1⟩:=h1.reads;obtain⟨A',c',rfl,hc',hm2,hr2⟩:=h2.reads;clear hr1 hr2 hF h1 h2;by_cases hL:K.length=M.length
 ·rw[←hL]at HR2 hc'⊢;have HL:=AA hL;have HM:=AA (show∀k,k<K.length→k<M.length by rw[hL];exact fun _ h=>h);clear hL;go_enter Tryz.func67,Tryz.ntmps67;go_wp2_with fail
  go_loopw [17] (fun i wr=>∃k:Nat,k≤K.length∧i=.int .i64 k∧Below w.heap.size w wr∧Ad q (K.take k) (M.take k)=true) (fun i _=>K.length-(intOf i).toNat)
  case atStart=>exact⟨0,Nat.zero_le _,rfl,Below.refl _ _,rfl⟩
  case round=>
   obtain⟨k,hk,rfl,hbel,hs⟩:=hrel;have HS:=AA hs;have HB:=AA hbel;have hsz:=hbel.size;clear hs;by_cases hlt:k<K.length
   ·have hkm:=HM.out k hlt;have ha:K[k]?=some K[k]:=List.getElem?_eq_getElem hlt;have hb:M[k]?=some (M[k]'hkm):=List.getElem?_eq_getElem hkm
    generalize K[k]=a at *;generalize M[k]'hkm=b at *
    have HC:=AA (fun w' (h':Below wr.heap.size wr w')=>HF.out a (List.mem_of_getElem? ha) b (List.mem_of_getElem? hb) w' (AC HB.out h'));obtain⟨A2,c2,hv,_,_,hr⟩:=(HR1.out.on hbel).reads;obtain⟨rfl,_,rfl⟩:A=A2∧True∧c=c2:=by simpa using hv
    obtain⟨A2',c2',hv',_,_,hr'⟩:=(HR2.out.on hbel).reads;obtain⟨rfl,rfl⟩:A'=A2'∧c'=c2':=by simp only[Value.slice.injEq]at hv';exact⟨hv'.1,hv'.2.2⟩
    obtain⟨g,rfl, -,hg,x0,x1,x2,x3⟩:=hr k a ha;obtain⟨g',rfl, -,hg',y0,y1,y2,y3⟩:=hr' k b hb;have HN:=AA (fun h=>DN (q:=q) ha hb h);have HY:=AA (CB (q:=q) ha hb);obtain⟨AR,cR,eR, -, -, -⟩:=(HR1.out.sub a (List.mem_of_getElem? ha)).1.reads;obtain⟨AB,cB,eB⟩:=(HR1.out.sub a (List.mem_of_getElem? ha)).2.slice;obtain⟨BR,dR,fR, -, -, -⟩:=(HR2.out.sub b (List.mem_of_getElem? hb)).1.reads;obtain⟨BB,dB,fB⟩:=(HR2.out.sub b (List.mem_of_getElem? hb)).2.slice;simp only[eR,eB,fR,fB]at HC x1 x2 y1 y2;clear eR eB fR fB;clear ha hb hr hr' hv hv' hbel;cases e1:q a b with
    |false=>
     have HE:=AA e1;clear e1;go_wp2_with fail
     refine(HC.out _ (BC _ _ _)).mono ?_;rw[HE.out];rintro e w1 ⟨rfl,hb⟩;have HB2:=AA (((HB.out.alloc hsz _).alloc (by simp;omega) _).trans (hb.mono (by simp;omega)));clear hb;go_wp2_with fail
     go_ret;exact⟨AH (HN.out HE.out).symm,HB2.out⟩
    |true=>
     have HE:=AA e1;clear e1;go_wp2_with fail
     refine(HC.out _ (BC _ _ _)).mono ?_;rw[HE.out];rintro e w1 ⟨rfl,hb⟩;have HB2:=AA (((HB.out.alloc hsz _).alloc (by simp;omega) _).trans (hb.mono (by simp;omega)));clear hb;go_wp2_with fail
     go_roundw;case rel=>exact⟨k+1,by omega,by go_num,HB2.out,by rw[HY.out,HS.out,HE.out];rfl⟩
     case measure=>simp[intOf];omega
   ·have HQ:=AA (Cf (q:=q) (by omega) HL.out HS.out);clear hbel;go_wp2_with fail
    go_ret;exact⟨AH HQ.out.symm,HB.out⟩
 ·have HQ:=AA (Ce (q:=q) hL);have hd:((K.length:Int) != (M.length:Int))=true:=by simp;omega
  clear hL;go_enter Tryz.func67,Tryz.ntmps67;go_wp2_with fail
  go_ret;exact⟨AH HQ.out.symm,Below.refl _ _⟩
set_option maxRecDepth 100000 in
set_option maxHeartbeats 4000000 in
theorem eqM {K M:List Cv} {v1 v2:Value} {w:World} {B1 B2:Nat} (q:Cv→Cv→Bool) (h1:ER w B1 v1 K) (h2:ER w B2 v2 M) (hl:K.length≤10000)
  (hF:∀a∈K,∀b∈M,∀w',Below w.heap.size w w'→Calls Tryz.prog 70 #[.agg #[a.vE,.int .i64 a.c.pl],.agg #[b.vE,.int .i64 b.c.pl]] w' (AN (q a b) w')):Calls Tryz.prog 69 #[v1,v2,.func (.func 70) #[] #[]] w (AN (Ad q K M) w):=by
 have HR1:=AA h1;have HR2:=AA h2;have HF:=AA hF;obtain⟨A,c,rfl,hc,hm1,hr1⟩:=h1.reads;obtain⟨A',c',rfl,hc',hm2,hr2⟩:=h2.reads;clear hr1 hr2 hF h1 h2;by_cases hL:K.length=M.length
 ·rw[←hL]at HR2 hc'⊢;have HL:=AA hL;have HM:=AA (show∀k,k<K.length→k<M.length by rw[hL];exact fun _ h=>h);clear hL;go_enter Tryz.func69,Tryz.ntmps69;go_wp2_with fail
  go_loopw [17] (fun i wr=>∃k:Nat,k≤K.length∧i=.int .i64 k∧Below w.heap.size w wr∧Ad q (K.take k) (M.take k)=true) (fun i _=>K.length-(intOf i).toNat)
  case atStart=>exact⟨0,Nat.zero_le _,rfl,Below.refl _ _,rfl⟩
  case round=>
   obtain⟨k,hk,rfl,hbel,hs⟩:=hrel;have HS:=AA hs;have HB:=AA hbel;have hsz:=hbel.size;clear hs;by_cases hlt:k<K.length
   ·have hkm:=HM.out k hlt;have ha:K[k]?=some K[k]:=List.getElem?_eq_getElem hlt;have hb:M[k]?=some (M[k]'hkm):=List.getElem?_eq_getElem hkm
    generalize K[k]=a at *;generalize M[k]'hkm=b at *
    have HC:=AA (fun w' (h':Below wr.heap.size wr w')=>HF.out a (List.mem_of_getElem? ha) b (List.mem_of_getElem? hb) w' (AC HB.out h'));obtain⟨A2,c2,hv,_,_,hr⟩:=(HR1.out.on hbel).reads;obtain⟨rfl,_,rfl⟩:A=A2∧True∧c=c2:=by simpa using hv
    obtain⟨A2',c2',hv',_,_,hr'⟩:=(HR2.out.on hbel).reads;obtain⟨rfl,rfl⟩:A'=A2'∧c'=c2':=by simp only[Value.slice.injEq]at hv';exact⟨hv'.1,hv'.2.2⟩
    obtain⟨g,rfl, -,hg,x0,x1⟩:=hr k a ha;obtain⟨g',rfl, -,hg',y0,y1⟩:=hr' k b hb;have HN:=AA (fun h=>DN (q:=q) ha hb h);have HY:=AA (CB (q:=q) ha hb);obtain⟨AE,cE,eE, -, -, -⟩:=(HR1.out.sub a (List.mem_of_getElem? ha)).rd;obtain⟨BE,dE,fE, -, -, -⟩:=(HR2.out.sub b (List.mem_of_getElem? hb)).rd;simp only[eE,fE]at HC x0 y0;clear eE fE;clear ha hb hr hr' hv hv' hbel;cases e1:q a b with
    |false=>
     have HE:=AA e1;clear e1;go_wp2_with fail
     refine(HC.out _ (BC _ _ _)).mono ?_;rw[HE.out];rintro e w1 ⟨rfl,hb⟩;have HB2:=AA (((HB.out.alloc hsz _).alloc (by simp;omega) _).trans (hb.mono (by simp;omega)));clear hb;go_wp2_with fail
     go_ret;exact⟨AH (HN.out HE.out).symm,HB2.out⟩
    |true=>
     have HE:=AA e1;clear e1;go_wp2_with fail
     refine(HC.out _ (BC _ _ _)).mono ?_;rw[HE.out];rintro e w1 ⟨rfl,hb⟩;have HB2:=AA (((HB.out.alloc hsz _).alloc (by simp;omega) _).trans (hb.mono (by simp;omega)));clear hb;go_wp2_with fail
     go_roundw;case rel=>exact⟨k+1,by omega,by go_num,HB2.out,by rw[HY.out,HS.out,HE.out];rfl⟩
     case measure=>simp[intOf];omega
   ·have HQ:=AA (Cf (q:=q) (by omega) HL.out HS.out);clear hbel;go_wp2_with fail
    go_ret;exact⟨AH HQ.out.symm,HB.out⟩
 ·have HQ:=AA (Ce (q:=q) hL);have hd:((K.length:Int) != (M.length:Int))=true:=by simp;omega
  clear hL;go_enter Tryz.func69,Tryz.ntmps69;go_wp2_with fail
  go_ret;exact⟨AH HQ.out.symm,Below.refl _ _⟩
end Go.Proofs.YthfkpalfopdmhaaGreatDoor
