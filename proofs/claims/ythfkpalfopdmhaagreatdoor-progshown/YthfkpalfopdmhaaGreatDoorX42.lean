/- Texts of the walk, packed. -/
import Derived.Test.YthfkpalfopdmhaaGreatDoorX41
import Derived.Test.YthfkpalfopdmhaaGreatDoorX34
import Derived.Test.YthfkpalfopdmhaaGreatDoorX30
import Derived.Test.YthfkpalfopdmhaaGreatDoorX16
import Derived.Test.YthfkpalfopdmhaaGreatDoorX00
namespace Go.Proofs.YthfkpalfopdmhaaGreatDoor
open Go.RowKit
set_option maxRecDepth 100000 in
set_option maxHeartbeats 4000000 in
theorem QCD {x:Tv} {w:World} {B:Nat} (hR:C9 w B x.vR x.t.regs) (hB:Fh w B x.vB x.t.body) (hs:D9 x.t) (ht:Tabs w):
  Calls Tryz.prog 48 #[.agg #[.string ⟨x.t.name.toArray⟩,x.vR,x.vB,.int .i64 x.t.pl]] w (AN (Bh true x.t) w):=by
 obtain⟨AR,cR,hvR, -, -, -⟩:=hR.reads;obtain⟨AB,cB,hvB⟩:=hB.slice;obtain⟨t,vR,vB⟩:=x;simp only at hR hB hs hvR hvB⊢;subst hvR hvB;have HBX:=AA (LD w (.string ⟨t.name.toArray⟩) (.slice AR t.regs.length cR) (.slice AB t.body.length cB) (.int .i64 t.pl) 41);have HB0:Hid (Below w.heap.size w (w.alloc (.cells #[.string ⟨t.name.toArray⟩,.slice AR t.regs.length cR,.slice AB t.body.length cB,.int .i64 t.pl] 41))):=AA ((Below.refl _ _).alloc (Nat.le_refl _) _);have HR:=AA hR;have HS:=AA hB;have HSM:=AA hs;have HT:=AA ht;have HE:=AA (QCC true t);obtain⟨q,hq⟩:∃q,Oa t=q:=⟨_,rfl⟩
 have HQ:=AA hq;obtain⟨q0,hq0⟩:∃q,nameB t.name=q:=⟨_,rfl⟩
 have HQ0:=AA hq0;have HN:Hid (Calls Tryz.prog 103 #[.string ⟨t.name.toArray⟩] (w.alloc (.cells #[.string ⟨t.name.toArray⟩,.slice AR t.regs.length cR,.slice AB t.body.length cB,.int .i64 t.pl] 41)) (AN q0 (w.alloc (.cells #[.string ⟨t.name.toArray⟩,.slice AR t.regs.length cR,.slice AB t.body.length cB,.int .i64 t.pl] 41)))):=AA (by rw[←hq0];exact Tt _ _ hs.1);clear hq0;clear hR hB hs ht hq;go_enter Tryz.func48,Tryz.ntmps48;go_wp2_with fail
 obtain⟨b,hb⟩:∃b,w.heap.size=b:=⟨_,rfl⟩
 rw[hb]at HBX⊢;generalize w.alloc (.cells #[.string ⟨t.name.toArray⟩,.slice AR t.regs.length cR,.slice AB t.body.length cB,.int .i64 t.pl] 41)=W at *;refine HN.out.mono ?_;rintro e w1 ⟨rfl,hb1⟩;have HB1:=AA (HB0.out.trans (hb1.mono HB0.out.size));obtain⟨l1,z0,z1,z2,z3⟩:=HBX.out.on hb1;clear hb1 hb;cases q0 with
 |false=>
  go_wp2_with fail
  go_ret;exact⟨AH (by rw[HE.out,HQ0.out];simp),HB1.out⟩
 |true=>
  have HCB:Hid (Calls Tryz.prog 107 #[.agg #[.string ⟨t.name.toArray⟩,.slice AR t.regs.length cR,.slice AB t.body.length cB,.int .i64 t.pl]] w1 (AN q w1)):=AA (by rw[←HQ.out];exact X2 (x:=⟨t,.slice AR t.regs.length cR,.slice AB t.body.length cB⟩) (HR.out.on HB1.out) (HS.out.keepT (AG.of HB1.out) Av.none) HSM.out (HT.out.on HB1.out));go_wp2_with fail
  refine HCB.out.mono ?_;rintro e w2 ⟨rfl,hb2⟩;have HB2:=AA (AC HB1.out hb2);clear hb2;go_wp2_with fail
  go_ret;exact⟨AH (by rw[HE.out,HQ0.out,HQ.out];simp),HB2.out⟩
set_option maxRecDepth 100000 in
set_option maxHeartbeats 4000000 in
theorem QD2 {x:Tv} {w:World} {B:Nat} (hR:C9 w B x.vR x.t.regs) (hB:Fh w B x.vB x.t.body) (hs:D9 x.t) (ht:Tabs w):
  Calls Tryz.prog 49 #[.agg #[.string ⟨x.t.name.toArray⟩,x.vR,x.vB,.int .i64 x.t.pl]] w (AN (Bh false x.t) w):=by
 obtain⟨AR,cR,hvR, -, -, -⟩:=hR.reads;obtain⟨AB,cB,hvB⟩:=hB.slice;obtain⟨t,vR,vB⟩:=x;obtain⟨nm,rg,bd,pl⟩:=t;simp only at hR hB hs hvR hvB⊢;subst hvR hvB;have HBX:=AA (LD w (.string ⟨nm.toArray⟩) (.slice AR rg.length cR) (.slice AB bd.length cB) (.int .i64 pl) 41);have HB0:Hid (Below w.heap.size w (w.alloc (.cells #[.string ⟨nm.toArray⟩,.slice AR rg.length cR,.slice AB bd.length cB,.int .i64 pl] 41))):=AA ((Below.refl _ _).alloc (Nat.le_refl _) _);have HR:=AA hR;have HS:=AA hB;have HSM:=AA hs;have HT:=AA ht;have HE:=AA (QCC false ⟨nm,rg,bd,pl⟩);obtain⟨q,hq⟩:∃q,Oa ⟨nm,rg,bd,pl⟩=q:=⟨_,rfl⟩
 have HQ:=AA hq;clear hR hB hs ht hq;cases nm with
 |cons a nm=>
  go_enter Tryz.func49,Tryz.ntmps49;go_wp2_with fail
  go_ret;exact⟨AH (by rw[HE.out];simp),HB0.out⟩
 |nil=>
  go_enter Tryz.func49,Tryz.ntmps49;go_wp2_with fail
  obtain⟨b,hb⟩:∃b,w.heap.size=b:=⟨_,rfl⟩
  rw[hb]at HBX⊢;generalize w.alloc (.cells #[.string ⟨#[]⟩,.slice AR rg.length cR,.slice AB bd.length cB,.int .i64 pl] 41)=W at *;have HE2:Hid (Bh false ⟨[],rg,bd,pl⟩=q):=AA (by rw[HE.out,HQ.out];simp);obtain⟨l1,z0,z1,z2,z3⟩:=HBX.out;have HCB:Hid (Calls Tryz.prog 107 #[.agg #[.string ⟨#[]⟩,.slice AR rg.length cR,.slice AB bd.length cB,.int .i64 pl]] W (AN q W)):=AA (by rw[←HQ.out];exact X2 (x:=⟨⟨[],rg,bd,pl⟩,.slice AR rg.length cR,.slice AB bd.length cB⟩) (HR.out.on HB0.out) (HS.out.keepT (AG.of HB0.out) Av.none) HSM.out (HT.out.on HB0.out));go_wp2_with fail
  refine HCB.out.mono ?_;rintro e w2 ⟨rfl,hb2⟩;have HB2:=AA (AC HB0.out hb2);clear hb2;go_wp2_with fail
  go_ret;exact⟨AH (by rw[HE2.out]),HB2.out⟩
set_option maxRecDepth 100000 in
set_option maxHeartbeats 4000000 in
theorem QD3 {x:Cv} {w:World} {B:Nat} (hE:CY B w x.vE x.c.e) (hs:Jo x.c):Calls Tryz.prog 51 #[.agg #[x.vE,.int .i64 x.c.pl]] w (AN (Ef x.c) w):=by
 obtain⟨AE,cE,hvE,_⟩:=hE.rd;obtain⟨⟨e,pl⟩,vE⟩:=x;simp only at hE hs hvE⊢;subst hvE;have HB0:Hid (Below w.heap.size w (w.alloc (.cells #[.slice AE e.length cE,.int .i64 pl] 50))):=AA ((Below.refl _ _).alloc (Nat.le_refl _) _);have hW:w.heap.size<(w.alloc (.cells #[.slice AE e.length cE,.int .i64 pl] 50)).heap.size:=by simp
 have HC:=AA (JX (.slice AE e.length cE) e (w.alloc (.cells #[.slice AE e.length cE,.int .i64 pl] 50)) (hE.rd.on HB0.out) hs.2 hs.1);obtain⟨q,hq⟩:∃q,BZ e=q:=⟨_,rfl⟩
 have HQ:=AA hq;rw[hq]at HC;clear hE hs hq;go_enter Tryz.func51,Tryz.ntmps51;go_wp2_with fail
 refine HC.out.mono ?_;rintro e w1 ⟨rfl,hb1⟩;have z1:w1.cell? ⟨w.heap.size,1,none⟩=some (.int .i64 pl):=by rw[hb1.cell (p:=⟨w.heap.size,1,none⟩) hW];simp
 have hl1:w.heap.size<w1.heap.size:=Nat.lt_of_lt_of_le hW hb1.size;have HB1:=AA (HB0.out.trans (hb1.mono HB0.out.size));clear hb1 hW;cases q with
 |false=>
  go_wp2_with fail
  go_ret;exact⟨AH (by unfold Ef;rw[HQ.out,Bool.and_false]),HB1.out⟩
 |true=>
  go_wp2_with fail
  refine(Tu pl w1).mono ?_;rintro e w2 ⟨rfl,hb2⟩;have HB2:=AA (AC HB1.out hb2);clear hb2;go_wp2_with fail
  go_ret;exact⟨AH (by unfold Ef;rw[HQ.out,Bool.and_true]),HB2.out⟩
set_option maxRecDepth 100000 in
set_option maxHeartbeats 2000000 in
theorem QFK (s:List UInt8) (w:World):Calls Tryz.prog 95 #[.string ⟨s.toArray⟩] w (fun e w'=>e=.returned (.string ⟨s.toArray⟩)∧Below w.heap.size w w'):=by
 go_enter Tryz.func95,Tryz.ntmps95;go_wp2_with fail
 go_ret;exact⟨rfl,Below.refl _ _⟩
set_option maxRecDepth 100000 in
set_option maxHeartbeats 8000000 in
theorem QFL {K:List (List UInt8)} {v:Value} {w:World} {B:Nat} (h:C9 w B v K) (hl:K.length≤10000):
  Calls Tryz.prog 94 #[v,.func (.func 95) #[] #[]] w (fun e w'=>∃u,e=.returned u∧C9 w' w.heap.size u K∧Below w.heap.size w w'):=by
 obtain⟨i0,hi0,hz0,hz1,hz2⟩:=info_parts TY;have HZ:=AA (show Tryz.prog.info? 9=some i0∧i0.zero=some (.string ⟨#[]⟩)∧i0.size=1∧i0.bytes=16 from⟨hi0,hz0,hz1,hz2⟩);have HO:=AA h;obtain⟨A,c,rfl,hc,hm1,hr1⟩:=h.reads;clear hi0 hz0 hz1 hz2 hr1 h;go_enter Tryz.func94,Tryz.ntmps94;go_wp2_with fail
 go_loopw [5,10] (fun all i wr=>∃k:Nat,k≤K.length∧i=.int .i64 k∧Below w.heap.size w wr∧C9 wr w.heap.size all (K.take k)) (fun _ i _=>K.length-(intOf i).toNat)
 case atStart=>exact⟨0,Nat.zero_le _,rfl,Below.refl _ _,Ky _ _⟩
 case round=>
  obtain⟨k,hk,rfl,hbel,hacc⟩:=hrel;have HB:=AA hbel;have HA:=AA hacc;have hsz:=hbel.size;by_cases hlt:k<K.length
  ·have ha:K[k]?=some K[k]:=List.getElem?_eq_getElem hlt;generalize K[k]=a at *;have HT:Hid (K.take (k+1)=K.take k++[a]):=AA (by rw[List.take_add_one,ha];rfl);have HN:Hid ((K.take k).length=k):=AA (by simp;omega);obtain⟨A2,c2,hv,_,_,hr⟩:=(HO.out.on hbel).reads;obtain⟨rfl,_,rfl⟩:A=A2∧True∧c=c2:=by simpa using hv
   obtain⟨g,rfl, -,hg,x0⟩:=hr k a ha;obtain⟨A3,c3,rfl, -, -, -⟩:=hacc.reads;generalize K.take k=acc at *;clear ha hr hv hbel hacc;go_wp2_with fail
   refine(QFK a _).mono ?_;rintro e w1 ⟨rfl,hb⟩;have HB1:=AA (AC HB.out hb);have HA1:=AA (AW (P:=fun _=>False) HA.out (AG.of (hb)) (fun _ _=>id));have hsz1:=HB1.out.size;have hk1:=hlt;clear hb;go_wp2_with (at_builtin;refine wpList_append_own _ rfl (.tmp 14) (.tmp 18) 38 rfl w.heap.size 9 i0 (.string ⟨#[]⟩) 1 16 Tryz.underlying38 HZ.out.1 HZ.out.2.1 HZ.out.2.2.1 HZ.out.2.2.2 rfl (by decide) _ acc.length (acc.map MA) rfl ?dO ⟨w1.heap.size,0,none⟩ 1 1 ([MA a]) (by rfl) (by rfl) ?d1 ?d2 ?d3 ?d4 ?d5 ?_)
   case dO=>exact AW (P:=fun _=>False) HA1.out (AG.of ((Below.refl w1.heap.size w1).alloc (Nat.le_refl _) _)) (fun _ _=>id)
   case d1=>exact World.news_of_block (cs:=#[MA a]) (alloc_at rfl)
   case d2=>exact Oq _
   case d3=>rw[HN.out];unfold maxLen;omega
   case d4=>rw[HN.out];omega
   case d5=>simp;omega
   intro v5 w5 hown5 hgrow5 _;have HB5:Hid (Below w.heap.size w w5):=AA ((HB1.out.alloc hsz1 _).grown hgrow5 (by simp;omega) (fun q hq=>(AM HA1.out q hq).1));have HA5:Hid (C9 w5 w.heap.size v5 (acc++[a])):=AA (by
    unfold C9;rw[List.length_append];simpa using hown5)
   obtain⟨A5,n5,c5,rfl⟩:∃A n c,v5=.slice A n c:=by
    obtain⟨A,c,hv,_⟩:=AX hown5;exact⟨A,_,c,hv⟩
   clear hown5 hgrow5;go_wp2_with fail
   go_roundw;case rel=>exact⟨k+1,by omega,by go_num,HB5.out,by rw[HT.out];exact HA5.out⟩
   case measure=>simp[intOf];omega
  ·have hkk:K.take k=K:=List.take_of_length_le (by omega);rw[hkk]at HA;clear hbel hacc;go_wp2_with fail
   go_ret;exact⟨_,rfl,HA.out,HB.out⟩
theorem QCK {w:World} {d T:Nat} {a0 a1 a2 a3:Value} (h:w.heap[d]?=some (.cells #[a0,a1,a2,a3] T (0,0))) (u0 u1 u2 u3:Value):(((((w.setCell ⟨d,0,none⟩ u0).setCell ⟨d,1,none⟩ u1).setCell ⟨d,2,none⟩ u2).setCell ⟨d,3,none⟩ u3)).heap[d]?=some (.cells #[u0,u1,u2,u3] T (0,0)):=by
 have h0:(w.setCell ⟨d,0,none⟩ u0).heap[d]?=some (.cells #[u0,a1,a2,a3] T (0,0)):=As h;have h1:((w.setCell ⟨d,0,none⟩ u0).setCell ⟨d,1,none⟩ u1).heap[d]?=some (.cells #[u0,u1,a2,a3] T (0,0)):=As h0;have h2:(((w.setCell ⟨d,0,none⟩ u0).setCell ⟨d,1,none⟩ u1).setCell ⟨d,2,none⟩ u2).heap[d]?=some (.cells #[u0,u1,u2,a3] T (0,0)):=As h1;have h3:((((w.setCell ⟨d,0,none⟩ u0).setCell ⟨d,1,none⟩ u1).setCell ⟨d,2,none⟩ u2).setCell ⟨d,3,none⟩ u3).heap[d]?=some (.cells #[u0,u1,u2,u3] T (0,0)):=As h2;exact h3
theorem Z6 {b d:Nat} (w:World) (v u0 u1 u2 u3:Value):AG (fun q=>q=b∨q=d) w (((((w.setCell ⟨b,3,none⟩ v).setCell ⟨d,0,none⟩ u0).setCell ⟨d,1,none⟩ u1).setCell ⟨d,2,none⟩ u2).setCell ⟨d,3,none⟩ u3):=(BH (BH (BH (BH (BH (AG.refl _ _) (.inl rfl)) (.inr rfl)) (.inr rfl)) (.inr rfl)) (.inr rfl))
theorem QFM {w:World} {d T:Nat} {a0 a1 a2 a3:Value} (h:w.heap[d]?=some (.cells #[a0,a1,a2,a3] T (0,0))) (u:Value):(w.setCell ⟨d,1,none⟩ u).heap[d]?=some (.cells #[a0,u,a2,a3] T (0,0)):=As h
theorem QFN {w:World} {d T:Nat} {a0 a1 a2 a3:Value} (h:w.heap[d]?=some (.cells #[a0,a1,a2,a3] T (0,0))) (u:Value):(w.setCell ⟨d,2,none⟩ u).heap[d]?=some (.cells #[a0,a1,u,a3] T (0,0)):=As h
theorem LE {w:World} {b B:Nat} {cs:Array Value} {T:TypeId} {Ts:List TypeId} (h:w.heap[b]?=some (.cells cs T (0,0))) (hT:T∉Ts):Av (fun q=>q=b) w B Ts:=fun q cs' T' _ hh hT' e=>by
 subst e;rw[h]at hh;simp at hh;exact hT (hh.2▸hT')
set_option maxRecDepth 100000 in
set_option maxHeartbeats 8000000 in
theorem QCL (x:Tv) {w:World} {B:Nat} (hR:C9 w B x.vR x.t.regs) (hB:Fh w B x.vB x.t.body) (hl1:x.t.regs.length≤10000) (hl2:x.t.body.length≤10000) (hs:∀y∈x.t.body,y.e.length≤10000∧y.f.length≤10000):
  Calls Tryz.prog 39 #[.agg #[.string ⟨x.t.name.toArray⟩,x.vR,x.vB,.int .i64 x.t.pl]] w (fun e w'=>∃u1 u2,e=.returned (.agg #[.string ⟨x.t.name.toArray⟩,u1,u2,.int .i64 0])∧C9 w' w.heap.size u1 x.t.regs∧Fh w' w.heap.size u2 (x.t.body.map bareS)∧Below w.heap.size w w'):=by
 obtain⟨⟨name,regs,body,pl⟩,vR,vB⟩:=x;simp only at *;obtain⟨AR,cR,hvR, -⟩:=hR.reads;obtain⟨AB,cB,hvB⟩:=hB.slice;subst hvR hvB;have HS:=AA hs;have h0:=BC w (.cells #[.string ⟨name.toArray⟩,.slice AR regs.length cR,.slice AB body.length cB,.int .i64 pl] 41) (.cells #[.string ⟨#[]⟩,.slice none 0 0,.slice none 0 0,.int .i64 0] 41);have HC1:=AA (QFL (hR.on h0) hl1);have HB0:=AA (hB.keepT (AG.of (P:=fun _=>False) h0) Av.none);have H0:=AA h0
 have N1:=AA (((Below.refl _ (w.alloc (.cells #[.string ⟨name.toArray⟩,.slice AR regs.length cR,.slice AB body.length cB,.int .i64 pl] 41))).alloc (Nat.le_refl _) (.cells #[.string ⟨#[]⟩,.slice none 0 0,.slice none 0 0,.int .i64 0] 41)).block w.heap.size (by simp) |>.trans (heap_alloc_new w (.cells #[.string ⟨name.toArray⟩,.slice AR regs.length cR,.slice AB body.length cB,.int .i64 pl] 41)));have N2:=AA (heap_alloc2_new w (.cells #[.string ⟨name.toArray⟩,.slice AR regs.length cR,.slice AB body.length cB,.int .i64 pl] 41) (.cells #[.string ⟨#[]⟩,.slice none 0 0,.slice none 0 0,.int .i64 0] 41));clear hs hR hB h0;go_enter Tryz.func39,Tryz.ntmps39;go_wp2_with fail
 obtain⟨b,hb⟩:∃b,w.heap.size=b:=⟨_,rfl⟩
 obtain⟨d,hd⟩:∃d,b+1=d:=⟨_,rfl⟩
 have hsz:((w.alloc (.cells #[.string ⟨name.toArray⟩,.slice AR regs.length cR,.slice AB body.length cB,.int .i64 pl] 41)).alloc (.cells #[.string ⟨#[]⟩,.slice none 0 0,.slice none 0 0,.int .i64 0] 41)).heap.size=d+1:=by simp;omega
 generalize((w.alloc (.cells #[.string ⟨name.toArray⟩,.slice AR regs.length cR,.slice AB body.length cB,.int .i64 pl] 41)).alloc (.cells #[.string ⟨#[]⟩,.slice none 0 0,.slice none 0 0,.int .i64 0] 41))=X at *;rw[hb]at N1;rw[hb,hd]at N2;simp only[hb,hd];have hne:b≠d:=by omega
 refine HC1.out.mono ?_;rintro e w1 ⟨u1,rfl,ho1,hb1⟩;have hx1:=(hb1.block b (by omega)).trans N1.out;have hd1:=(hb1.block d (by omega)).trans N2.out;have c1':w1.cell? ⟨b,1,none⟩=some (.slice AR regs.length cR):=by rw[Lib.cell_of_heap hx1];rfl
 have f1':=Lib.frozen_of_heap hx1 1;have c2':w1.cell? ⟨b,2,none⟩=some (.slice AB body.length cB):=by rw[Lib.cell_of_heap hx1];rfl
 have hbsz:=hb1.size;obtain⟨A1,c1,rfl, -, -, -⟩:=AX ho1;have hk1:AG (fun q=>q=b) w1 (w1.setCell ⟨b,1,none⟩ (.slice A1 regs.length c1)):=BH (AG.refl _ _) rfl;have HC2:=AA (QD8 (((HB0.out.keepT (AG.of (P:=fun _=>False) hb1) Av.none)).keepT hk1 (LE hx1 (by decide))) hl2 HS.out);have HO1:=AA (ho1.keepT hk1 (LE hx1 (by decide)));have HX1:=AA (QFM hx1 (.slice A1 regs.length c1));have HD1:=AA (CZ (j:=1) (v:=.slice A1 regs.length c1) hd1 (fun h=>hne h.symm));have HBL:=AA ((H0.out.trans (hb1.mono H0.out.size)).trans (hk1.below (fun k hk h=>by omega) (by have:=H0.out.size;omega)))
 clear hb1 hx1 hd1 ho1 hk1 HC1 HB0 N1 N2 H0;go_wp2_with fail
 generalize w1.setCell ⟨b,1,none⟩ (.slice A1 regs.length c1)=Y at *;refine HC2.out.mono ?_;rintro e w2 ⟨u2,rfl,ho2,hb2⟩;have hx2:=(hb2.block b (Array.getElem?_eq_some_iff.1 HX1.out).1).trans HX1.out;have hd2:=(hb2.block d (Array.getElem?_eq_some_iff.1 HD1.out).1).trans HD1.out;have q2:w2.cell? ⟨b,2,none⟩=some (.slice AB body.length cB):=by rw[Lib.cell_of_heap hx2];rfl
 have g2:=Lib.frozen_of_heap hx2 2;obtain⟨A2,c2,hv2⟩:=ho2.slice;rw[List.length_map]at hv2;subst hv2;have hk2:AG (fun q=>q=b) w2 (w2.setCell ⟨b,2,none⟩ (.slice A2 body.length c2)):=BH (AG.refl _ _) rfl;have HO1':=AA (((HO1.out.on hb2).keepT hk2 (LE hx2 (by decide))).base (B':=w.heap.size) (by rw[hsz];omega));have HO2':=AA ((ho2.keepT hk2 (LE hx2 (by decide))).base (B':=w.heap.size) HBL.out.size);have hZ:=QFN hx2 (.slice A2 body.length c2);have hzd:=CZ (j:=2) (v:=.slice A2 body.length c2) hd2 (fun h=>hne h.symm)
 have HBZ:=AA ((HBL.out.trans (hb2.mono HBL.out.size)).trans (hk2.below (fun k hk h=>by omega) ((HBL.out.trans (hb2.mono HBL.out.size)).size)));clear hb2 hx2 hd2 ho2 hk2 HC2 HO1 HX1 HD1 HBL c1' f1' c2';go_upto_region 3 with(fail)
 generalize w2.setCell ⟨b,2,none⟩ (.slice A2 body.length c2)=Z at *;clear q2 g2;have z0:Z.cell? ⟨b,0,none⟩=some (.string ⟨name.toArray⟩):=by rw[Lib.cell_of_heap hZ];rfl
 have z1:Z.cell? ⟨b,1,none⟩=some (.slice A1 regs.length c1):=by rw[Lib.cell_of_heap hZ];rfl
 have z2:Z.cell? ⟨b,2,none⟩=some (.slice A2 body.length c2):=by rw[Lib.cell_of_heap hZ];rfl
 have z3:Z.cell? ⟨b,3,none⟩=some (.int .i64 pl):=by rw[Lib.cell_of_heap hZ];rfl
 have f3:=Lib.frozen_of_heap hZ 3;have y0:Z.cell? ⟨d,0,none⟩=some (.string ⟨#[]⟩):=by rw[Lib.cell_of_heap hzd];rfl
 have k0:=Lib.frozen_of_heap hzd 0;have y1:Z.cell? ⟨d,1,none⟩=some (.slice none 0 0):=by rw[Lib.cell_of_heap hzd];rfl
 have k1:=Lib.frozen_of_heap hzd 1;have y2:Z.cell? ⟨d,2,none⟩=some (.slice none 0 0):=by rw[Lib.cell_of_heap hzd];rfl
 have k2:=Lib.frozen_of_heap hzd 2;have y3:Z.cell? ⟨d,3,none⟩=some (.int .i64 0):=by rw[Lib.cell_of_heap hzd];rfl
 have k3:=Lib.frozen_of_heap hzd 3;have HF:=AA (QCK (CZ (j:=3) (v:=.int .i64 0) hzd (fun h=>hne h.symm)) (.string ⟨name.toArray⟩) (.slice A1 regs.length c1) (.slice A2 body.length c2) (.int .i64 0));have HKF:=AA (Z6 (b:=b) (d:=d) Z (.int .i64 0) (.string ⟨name.toArray⟩) (.slice A1 regs.length c1) (.slice A2 body.length c2) (.int .i64 0));have HZB:=AA hZ;have HZD:=AA hzd;clear hZ hzd;go_wp2_with fail
 generalize((((Z.setCell ⟨b,3,none⟩ (.int .i64 0)).setCell ⟨d,0,none⟩ (.string ⟨name.toArray⟩)).setCell ⟨d,1,none⟩ (.slice A1 regs.length c1)).setCell ⟨d,2,none⟩ (.slice A2 body.length c2)).setCell ⟨d,3,none⟩ (.int .i64 0)=V at *;have v0:V.cell? ⟨d,0,none⟩=some (.string ⟨name.toArray⟩):=by rw[Lib.cell_of_heap HF.out];rfl
 have v1:V.cell? ⟨d,1,none⟩=some (.slice A1 regs.length c1):=by rw[Lib.cell_of_heap HF.out];rfl
 have v2:V.cell? ⟨d,2,none⟩=some (.slice A2 body.length c2):=by rw[Lib.cell_of_heap HF.out];rfl
 have v3:V.cell? ⟨d,3,none⟩=some (.int .i64 0):=by rw[Lib.cell_of_heap HF.out];rfl
 clear z0 z1 z2 z3 f3 y0 y1 y2 y3 k0 k1 k2 k3;refine bodyPost_ret (v:=.agg #[.string ⟨name.toArray⟩,.slice A1 regs.length c1,.slice A2 body.length c2,.int .i64 0]) (by simp[results,Tryz.results39,go_sem,v0,v1,v2,v3]) rfl ?_;have hAv:Av (fun q=>q=b∨q=d) Z w.heap.size [9,44,46]:=fun q cs T _ hh hT e=>by
  rcases e with rfl|rfl
  ·rw[HZB.out]at hh;simp at hh;rw[←hh.2]at hT;revert hT;decide
  ·rw[HZD.out]at hh;simp at hh;rw[←hh.2]at hT;revert hT;decide
 exact⟨_,_,rfl,HO1'.out.keepT HKF.out (hAv.sub (by simp)),HO2'.out.keepT HKF.out (hAv.sub (by simp)),HBZ.out.trans (HKF.out.below (fun k hk h=>by omega) HBZ.out.size)⟩
theorem QCN:(Tryz.prog.info? 23).map (fun i=>(i.zero,i.size,i.bytes))=some (some (.slice none 0 0),1,24):=by kernel_rfl
theorem QEA {wa w5:World} {B:Nat} {v v5:Value} {K:List Lv} {x:Lv} (h:E9 wa B v K) (hx:CX wa B x.v x.l) (hg:wa.grownBy w5 v.ownBlock) (hr:w5.ownsRow B 23 1 v5 (K.length+1) (K.map (·.v)++[x.v])):E9 w5 B v5 (K++[x]):=by
 have hA:Av (fun q=>v.ownBlock=some q) wa B [48]:=fun q cs T hB hh hT hP=>by
  obtain⟨_,cs',h'⟩:=AM h.row q hP;rw[h']at hh;simp only[List.mem_singleton]at hT;subst hT;simp at hh
 have hk:AG (fun q=>v.ownBlock=some q) wa w5:=AG.grown hg;refine⟨by rw[List.length_append,List.map_append];exact hr,fun y hy=>?_⟩;rcases List.mem_append.1 hy with hy|hy
 ·exact(h.sub y hy).keepT hk hA
 ·simp at hy;subst hy;exact hx.keepT hk hA
set_option maxRecDepth 100000 in
set_option maxHeartbeats 8000000 in
theorem QFR {K:List Lv} {v:Value} {w:World} {B:Nat} (h:E9 w B v K) (hl:K.length≤10000) (hs:∀x∈K,x.l.length≤10000):
  Calls Tryz.prog 36 #[v,.func (.func 37) #[] #[]] w (fun e w'=>∃u,e=.returned u∧Is w' w.heap.size u (K.map (fun x=>x.l.map bareCel))∧Below w.heap.size w w'):=by
 obtain⟨i0,hi0,hz0,hz1,hz2⟩:=info_parts QCN;have HZ:=AA (show Tryz.prog.info? 23=some i0∧i0.zero=some (.slice none 0 0)∧i0.size=1∧i0.bytes=24 from⟨hi0,hz0,hz1,hz2⟩);have HO:=AA h;have HS:=AA hs;obtain⟨A,c,rfl,hc,hm1,hr1⟩:=h.reads;clear hi0 hz0 hz1 hz2 hr1 h hs;go_enter Tryz.func36,Tryz.ntmps36;go_wp2_with fail
 go_loopw [5,10] (fun all i wr=>∃(k:Nat) (K':List Lv),k≤K.length∧i=.int .i64 k∧Below w.heap.size w wr∧E9 wr w.heap.size all K'∧K'.map (·.l)=(K.take k).map (fun x=>x.l.map bareCel)) (fun _ i _=>K.length-(intOf i).toNat)
 case atStart=>exact⟨0,[],Nat.zero_le _,rfl,Below.refl _ _,⟨World.ownsRow_nil _ _ _ _,fun x h=>by cases h⟩,rfl⟩
 case round=>
  obtain⟨k,acc,hk,rfl,hbel,hacc,hmap⟩:=hrel;have HB:=AA hbel;have HA:=AA hacc;have hsz:=hbel.size;by_cases hlt:k<K.length
  ·have ha:K[k]?=some K[k]:=List.getElem?_eq_getElem hlt;have hin:=List.getElem_mem hlt;generalize K[k]=a at *;have HT:Hid ((acc.map (·.l))++[a.l.map bareCel]=(K.take (k+1)).map (fun x=>x.l.map bareCel)):=AA (by rw[List.take_add_one,ha,List.map_append,hmap];rfl);have HN:Hid (acc.length=k):=AA (by have:=congrArg List.length hmap;simp at this;omega);have HC:=AA (T8 ((HO.out.on hbel).sub a hin) (HS.out a hin));obtain⟨A2,c2,hv,_,_,hr⟩:=(HO.out.on hbel).reads;obtain⟨rfl,_,rfl⟩:A=A2∧True∧c=c2:=by simpa using hv
   obtain⟨g,rfl, -,hg,x0⟩:=hr k a ha;obtain⟨A3,c3,rfl, -, -, -⟩:=hacc.reads;clear ha hr hv hbel hacc hmap hin;go_wp2_with fail
   refine HC.out.mono ?_;rintro e w1 ⟨u,rfl,hu,hb⟩;have HB1:=AA (AC HB.out hb);have HA1:=AA (HA.out.on hb);have HU1:=AA (hu.base hsz);have hsz1:=HB1.out.size;obtain⟨Au,cu,rfl, -, -, -⟩:=hu.reads;generalize(a.l.map bareCel).length=nu at *;clear hb hu;go_wp2_with (at_builtin;refine wpList_append_own _ rfl (.tmp 14) (.tmp 18) 22 rfl w.heap.size 23 i0 (.slice none 0 0) 1 24 Tryz.underlying22 HZ.out.1 HZ.out.2.1 HZ.out.2.2.1 HZ.out.2.2.2 rfl (by decide) _ acc.length (acc.map (·.v)) rfl ?dO ⟨w1.heap.size,0,none⟩ 1 1 [.slice Au nu cu] (by rfl) (by rfl) ?d1 ?d2 ?d3 ?d4 ?d5 ?_)
   case dO=>exact(HA1.out.on ((Below.refl w1.heap.size w1).alloc (Nat.le_refl _) _)).row
   case d1=>exact World.news_of_block (cs:=#[.slice Au nu cu]) (alloc_at rfl)
   case d2=>intro y hy;simp at hy;subst hy;rfl
   case d3=>rw[HN.out];unfold maxLen;omega
   case d4=>rw[HN.out];omega
   case d5=>simp;omega
   intro v5 w5 hown5 hgrow5 _;have HB5:Hid (Below w.heap.size w w5):=AA ((HB1.out.alloc hsz1 _).grown hgrow5 (by simp;omega) (fun q hq=>(AM HA1.out.row q hq).1));have HA5:Hid (E9 w5 w.heap.size v5 (acc++[⟨a.l.map bareCel,.slice Au nu cu⟩])):=AA (QEA (x:=⟨a.l.map bareCel,.slice Au nu cu⟩) (HA1.out.on ((Below.refl w1.heap.size w1).alloc (Nat.le_refl _) _)) (HU1.out.on ((Below.refl w1.heap.size w1).alloc (Nat.le_refl _) _)) hgrow5 hown5);obtain⟨A5,n5,c5,rfl⟩:∃A n c,v5=.slice A n c:=by
    obtain⟨A,c,hv,_⟩:=AX hown5;exact⟨A,_,c,hv⟩
   clear hown5 hgrow5;go_wp2_with fail
   go_roundw;case rel=>exact⟨k+1,_,by omega,by go_num,HB5.out,HA5.out,by rw[←HT.out,List.map_append];rfl⟩
   case measure=>simp[intOf];omega
  ·have hkk:K.take k=K:=List.take_of_length_le (by omega);rw[hkk]at hmap;have HM:=AA hmap;clear hbel hacc hmap hkk;go_wp2_with fail
   go_ret;exact⟨_,rfl,⟨acc,HA.out,HM.out⟩,HB.out⟩
theorem QEB {K:List (List Cel)} {v:Value} {w:World} {B:Nat} (h:Is w B v K) (hl:K.length≤10000) (hs:∀x∈K,x.length≤10000):
  Calls Tryz.prog 36 #[v,.func (.func 37) #[] #[]] w (fun e w'=>∃u,e=.returned u∧Is w' w.heap.size u (K.map (·.map bareCel))∧Below w.heap.size w w'):=by
 obtain⟨K',hK,rfl⟩:=h;have:=QFR hK (by rw[List.length_map]at hl;exact hl) (fun x hx=>hs _ (List.mem_map_of_mem hx));rw[List.map_map];exact this
set_option maxRecDepth 100000 in
set_option maxHeartbeats 4000000 in
theorem eqL {K M:List Lv} {v1 v2:Value} {w:World} {B1 B2:Nat} (q:Lv→Lv→Bool) (h1:E9 w B1 v1 K) (h2:E9 w B2 v2 M) (hl:K.length≤10000)
  (hF:∀a∈K,∀b∈M,∀w',Below w.heap.size w w'→Calls Tryz.prog 66 #[a.v,b.v] w' (AN (q a b) w')):Calls Tryz.prog 65 #[v1,v2,.func (.func 66) #[] #[]] w (AN (Ad q K M) w):=by
 have HR1:=AA h1;have HR2:=AA h2;have HF:=AA hF;obtain⟨A,c,rfl,hc,hm1,hr1⟩:=h1.reads;obtain⟨A',c',rfl,hc',hm2,hr2⟩:=h2.reads;clear hr1 hr2 hF h1 h2;by_cases hL:K.length=M.length
 ·rw[←hL]at HR2 hc'⊢;have HL:=AA hL;have HM:=AA (show∀k,k<K.length→k<M.length by rw[hL];exact fun _ h=>h);clear hL;go_enter Tryz.func65,Tryz.ntmps65;go_wp2_with fail
  go_loopw [17] (fun i wr=>∃k:Nat,k≤K.length∧i=.int .i64 k∧Below w.heap.size w wr∧Ad q (K.take k) (M.take k)=true) (fun i _=>K.length-(intOf i).toNat)
  case atStart=>exact⟨0,Nat.zero_le _,rfl,Below.refl _ _,rfl⟩
  case round=>
   obtain⟨k,hk,rfl,hbel,hs⟩:=hrel;have HS:=AA hs;have HB:=AA hbel;have hsz:=hbel.size;clear hs;by_cases hlt:k<K.length
   ·have hkm:=HM.out k hlt;have ha:K[k]?=some K[k]:=List.getElem?_eq_getElem hlt;have hb:M[k]?=some (M[k]'hkm):=List.getElem?_eq_getElem hkm
    generalize K[k]=a at *;generalize M[k]'hkm=b at *
    have HC:=AA (fun w' (h':Below wr.heap.size wr w')=>HF.out a (List.mem_of_getElem? ha) b (List.mem_of_getElem? hb) w' (AC HB.out h'));obtain⟨A2,c2,hv,_,_,hr⟩:=(HR1.out.on hbel).reads;obtain⟨rfl,_,rfl⟩:A=A2∧True∧c=c2:=by simpa using hv
    obtain⟨A2',c2',hv',_,_,hr'⟩:=(HR2.out.on hbel).reads;obtain⟨rfl,rfl⟩:A'=A2'∧c'=c2':=by simp only[Value.slice.injEq]at hv';exact⟨hv'.1,hv'.2.2⟩
    obtain⟨g,rfl, -,hg,x0⟩:=hr k a ha;obtain⟨g',rfl, -,hg',y0⟩:=hr' k b hb;have HN:=AA (fun h=>DN (q:=q) ha hb h);have HY:=AA (CB (q:=q) ha hb);clear ha hb hr hr' hv hv' hbel;cases e1:q a b with
    |false=>
     have HE:=AA e1;clear e1;go_wp2_with fail
     refine(HC.out _ (Below.refl _ _)).mono ?_;rw[HE.out];rintro e w1 ⟨rfl,hb⟩;have HB2:=AA (AC HB.out hb);clear hb;go_wp2_with fail
     go_ret;exact⟨AH (HN.out HE.out).symm,HB2.out⟩
    |true=>
     have HE:=AA e1;clear e1;go_wp2_with fail
     refine(HC.out _ (Below.refl _ _)).mono ?_;rw[HE.out];rintro e w1 ⟨rfl,hb⟩;have HB2:=AA (AC HB.out hb);clear hb;go_wp2_with fail
     go_roundw;case rel=>exact⟨k+1,by omega,by go_num,HB2.out,by rw[HY.out,HS.out,HE.out];rfl⟩
     case measure=>simp[intOf];omega
   ·have HQ:=AA (Cf (q:=q) (by omega) HL.out HS.out);clear hbel;go_wp2_with fail
    go_ret;exact⟨AH HQ.out.symm,HB.out⟩
 ·have HQ:=AA (Ce (q:=q) hL);have hd:((K.length:Int) != (M.length:Int))=true:=by simp;omega
  clear hL;go_enter Tryz.func65,Tryz.ntmps65;go_wp2_with fail
  go_ret;exact⟨AH HQ.out.symm,Below.refl _ _⟩
set_option maxRecDepth 100000 in
set_option maxHeartbeats 4000000 in
theorem eqR {K M:List (List UInt8)} {v1 v2:Value} {w:World} {B1 B2:Nat} (h1:C9 w B1 v1 K) (h2:C9 w B2 v2 M) (hl:K.length≤10000):Calls Tryz.prog 125 #[v1,v2] w (AN (MX K M) w):=by
 obtain⟨A,c,rfl,hc,hm1,hr1⟩:=h1.reads;obtain⟨A',c',rfl,hc',hm2,hr2⟩:=h2.reads;have HR1:=AA hr1;have HR2:=AA hr2;clear hr1 hr2 h1 h2;unfold MX;by_cases hL:K.length=M.length
 ·rw[←hL]at hc'⊢;have HL:=AA hL;have HM:=AA (show∀k,k<K.length→k<M.length by rw[hL];exact fun _ h=>h);clear hL;go_enter Tryz.func125,Tryz.ntmps125;go_wp2_with fail
  go_loopw [13] (fun i wr=>∃k n:Nat,k≤K.length∧i=.int .i64 k∧wr=w.drewN n∧Ad (fun a b=>a==b) (K.take k) (M.take k)=true) (fun i _=>K.length-(intOf i).toNat)
  case atStart=>exact⟨0,0,Nat.zero_le _,rfl,rfl,rfl⟩
  case round=>
   obtain⟨k,n,hk,rfl,rfl,hs⟩:=hrel;have HS:=AA hs;clear hs;by_cases hlt:k<K.length
   ·have hkm:=HM.out k hlt;have ha:K[k]?=some K[k]:=List.getElem?_eq_getElem hlt;have hb:M[k]?=some (M[k]'hkm):=List.getElem?_eq_getElem hkm
    generalize K[k]=a at *;generalize M[k]'hkm=b at *
    obtain⟨g,rfl, -,hg,x0⟩:=HR1.out k a ha;obtain⟨g',rfl, -,hg',y0⟩:=HR2.out k b hb;have HN:=AA (fun h=>DN (q:=fun a b=>a==b) ha hb h);have HY:=AA (CB (q:=fun a b=>a==b) ha hb);clear ha hb;cases e1:(a==b)with
    |false=>
     have HQ:=AA e1;go_wp2_with fail
     go_quiet (fail)
     go_wp2_with fail
     go_ret;exact⟨AH (HN.out HQ.out).symm,Hf _ _ _⟩
    |true=>
     have HQ:=AA e1;go_wp2_with fail
     go_quiet (fail)
     go_wp2_with fail
     go_roundw;case rel=>exact⟨k+1,_,by omega,by go_num,rfl,by rw[HY.out,HS.out,HQ.out];rfl⟩
     case measure=>simp[intOf];omega
   ·have HQ:=AA (Cf (q:=fun a b=>a==b) (by omega) HL.out HS.out);go_wp2_with fail
    go_ret;exact⟨AH HQ.out.symm,AO _ _⟩
 ·have HQ:=AA (Ce (q:=fun a b:List UInt8=>a==b) hL);have hd:((K.length:Int) != (M.length:Int))=true:=by simp;omega
  clear hL;go_enter Tryz.func125,Tryz.ntmps125;go_wp2_with fail
  go_ret;exact⟨AH HQ.out.symm,Below.refl _ _⟩
theorem VW (a b:Cel):B8 false a b=(a.name==b.name&&a.n==b.n):=by unfold B8;simp
set_option maxRecDepth 100000 in
set_option maxHeartbeats 4000000 in
theorem QFT (a b:Cel) (w:World):Calls Tryz.prog 124 #[.agg #[.string ⟨a.name.toArray⟩,.int .i64 a.n,.int .i64 a.pl],.agg #[.string ⟨b.name.toArray⟩,.int .i64 b.n,.int .i64 b.pl]] w (AN (B8 false a b) w):=by
 have HV:=AA (VW a b);cases e1:(a.name==b.name)with
 |false=>
  have HQ:Hid (B8 false a b=false):=AA (by rw[HV.out,e1];rfl);go_enter Tryz.func124,Tryz.ntmps124;go_wp2_with fail
  go_ret;exact⟨AH HQ.out.symm,BC _ _ _⟩
 |true=>
  have HQ:Hid (B8 false a b=(a.n==b.n)):=AA (by rw[HV.out,e1];rfl);go_enter Tryz.func124,Tryz.ntmps124;go_wp2_with fail
  go_ret;exact⟨AH HQ.out.symm,BC _ _ _⟩
end Go.Proofs.YthfkpalfopdmhaaGreatDoor
