/- Texts of the walk, packed. -/
import Derived.Test.YthfkpalfopdmhaaGreatDoorX34
import Derived.Laws.AppendOwnNone
import Derived.Test.YthfkpalfopdmhaaGreatDoorX00
namespace Go.Proofs.YthfkpalfopdmhaaGreatDoor
open Go.RowKit
def IK (w:World) (b:Nat) (name:List UInt8) (vR vB:Value) (pl:Int):Prop:=w.heap[b]?=some (.cells #[.string ⟨name.toArray⟩,vR,vB,.int .i64 pl] 41 (0,0))
def QX (M:List Tok) (B g b:Nat) (lv:Value) (p:Pv) (name:List UInt8) (pl:Int) (r:RS Thr) (w:World) (e:Ending) (w':World):Prop:=
 AG (fun q=>q=g∨q=b∨lv.ownBlock=some q) w w'∧match r with
 |.ok t m=>e=.returned (.int .i64 0)∧∃M' vR vB,Ea M M' m∧CJ M'∧S5 M' B g lv m p w'∧IK w' b t.name vR vB t.pl∧C9 w' w.heap.size vR t.regs∧Fh w' w.heap.size vB t.body
 |.bad er q=>e=.returned (.int .i64 er)∧er≠0∧(∃i:Int,Bl w' g lv i p q)∧∃A n c,IK w' b name (.slice A n c) (.slice none 0 0) pl
section
variable {M:List Tok} {B g b i:Nat} {lv:Value} {p:Pv} {w:World} {name:List UInt8} {pl:Int}
theorem S5.far {P:Nat→Prop} {w':World} (h:S5 M B g lv i p w) (hk:AG P w w') (hg:¬P g) (ho:∀q,lv.ownBlock=some q→¬P q) (h8:∀q,q≤8→¬P q):S5 M B g lv i p w':=by
 obtain⟨q,hq⟩:=h.blk;exact⟨⟨q,Ep hq hk hg⟩,AW h.toks hk ho,h.tabs.same fun k hk8=>hk.block k (by have:=h.tabs.lt2;omega) (h8 k hk8),h.gB,h.BB,h.len,h.small,h.il⟩
theorem DD {P:Nat→Prop} {w':World} {vR vB:Value} (h:IK w b name vR vB pl) (hk:AG P w w') (hb:¬P b):IK w' b name vR vB pl:=by unfold IK;rw[hk.block b (Array.getElem?_eq_some_iff.1 h).1 hb];exact h
structure Apart (w:World) (g b:Nat) (lv:Value):Prop where
 bg:¬b=g
 gb:¬g=b
 bl:∀q,lv.ownBlock=some q→¬q=b
 gl:∀q,lv.ownBlock=some q→¬q=g
 b8:8<b
theorem OF {vR vB:Value} (h:S5 M B g lv i p w) (hb:IK w b name vR vB pl) (h8:8<b):Apart w g b lv:=by
 obtain⟨q,hq⟩:=h.blk;have h1:¬b=g:=OE hq hb (by decide);refine⟨h1,fun e=>h1 e.symm,fun q hq e=>?_,fun q hq e=>(h.own_ne q hq).1 e,h8⟩;obtain⟨_,cs,hh⟩:=AM h.toks q hq;unfold IK at hb;rw[e,hb]at hh;simp at hh
theorem S5.offb {w':World} (h:S5 M B g lv i p w) (ha:Apart w g b lv) (hk:AG (fun q=>q=b) w w'):S5 M B g lv i p w':=
 h.far hk ha.gb (fun q hq=>ha.bl q hq) (fun q hq e=>by have:=ha.b8;omega)
set_option maxRecDepth 100000 in
set_option maxHeartbeats 16000000 in
theorem QBe (h:S5 M B g lv i p w) (hwd:CJ M) (hb:IK w b name (.slice none 0 0) (.slice none 0 0) pl) (h8:8<b) {f:Nat} {r:RS Thr} (hr:IJ M f i name pl=some r):
  Calls Tryz.prog 184 #[.pointer (some ⟨g,0,none⟩),.pointer (some ⟨b,0,none⟩)] w (QX M B g b lv p name pl r w):=by
 have HA:=AA (OF h hb h8);have HH:=AA h;have HW:=AA hwd;have HB:=AA hb;have HR:=AA hr;obtain⟨q0,hb0⟩:=h.blk;obtain⟨hgl,c0,c1, -, -, -, -, -, -, -, -⟩:=hb0.cells;have HSG:=AA (Xr h [123]);have hlen:=h.len;clear h hwd hb hr hb0;go_enter Tryz.func184,Tryz.ntmps184;go_wp2_with fail
 refine HSG.out.mono ?_;intro e w1 hp;obtain⟨hk1,hp⟩:=hp;have HK1:Hid (AG (fun q=>q=g∨q=b∨lv.ownBlock=some q) w w1):=AA (hk1.mono (fun _ _ h=>.inl h));have HB1:=AA (DD HB.out hk1 HA.out.bg);unfold IJ at HR;cases hm:Bg M i [123]with
 |bad er q=>
  rw[hm]at hp;obtain⟨rfl,hne,i1,hb1⟩:=hp;have hne2:(er != 0)=true:=by simp[hne]
  have HNE:=AA hne;have HX:=AA hb1;have HRR:Hid (r=.bad er q):=AA (by have h1:=HR.out;rw[hm]at h1;simpa using h1.symm);clear hm hk1 hne hb1;go_wp2_with fail
  go_ret;rw[HRR.out];exact⟨HK1.out,rfl,HNE.out,⟨i1,HX.out⟩,none,0,0,HB1.out⟩
 |ok u j=>
  rw[hm]at hp;obtain⟨rfl,hs1⟩:=hp;have hj:j=i+1∧isB M i [123]=true:=by
   unfold Bg at hm;split at hm
   ·rename_i hq;simp at hm;exact⟨hm.symm,hq⟩
   ·cases hm
  obtain⟨rfl,hq123⟩:=hj;have HQ1:=AA hq123;have HS1:=AA hs1;have HR1:Hid ((RS.obind (GM M f (i+1)) fun rs k=>RS.obind (Fo M f k i) fun b m=>some (.ok ⟨name,rs,b,pl⟩ m))=some r):=AA (by have h1:=HR.out;rw[hm]at h1;exact h1);obtain⟨q1,hb1⟩:=hs1.blk;obtain⟨hgl1,d0,d1, -, -, -, -, -, -, -, -⟩:=hb1.cells;have hne0:((0:Int) != 0)=false:=by decide
  clear hm hk1 hs1 hb1 hq123 HSG;go_wp2_with fail
  cases hq:isB M ((i+1:Nat):Int) Ir with
  |false=>
   have HQ:=AA hq;have HR2:Hid ((RS.obind (Fo M f (i+1) i) fun b m=>some (.ok ⟨name,[],b,pl⟩ m))=some r):=AA (by
    have h1:=HR1.out;unfold GM at h1;rw[if_neg (by rw[hq];simp)]at h1;exact h1)
   clear hq;go_region_held3 (fun w'=>w'.cell? ⟨g,0,none⟩=some lv∧w'.cell? ⟨g,1,none⟩=some (.int .i64 ((i+1:Nat):Int))∧Below w1.heap.size w1 w')
    (first|exact⟨d0,d1,Below.refl _ _⟩|exact⟨d0,d1,AD _⟩|exact⟨(hb1.cell (p:=⟨g,0,none⟩) hgl1).trans d0,(hb1.cell (p:=⟨g,1,none⟩) hgl1).trans d1,AC (AD _) hb1⟩)
    (first|(go_at_call 77;refine(Qu HS1.out HQ.out (AD _)).mono ?_;rintro e w2 ⟨rfl,hb1⟩))
   have HB2:=AA (AC (AD w1) hb1);replace HK1:=AA (Ab HK1.out HB2.out);replace HB1:=AA (DD HB1.out (AG.of (P:=fun _=>False) HB2.out) (fun h=>h));replace HS1:=AA (HS1.out.on HB2.out);clear hb1 d0 d1 hgl1 HB2;generalize w2=w1 at *;have hP0:E5 M (i:Nat)=E5 M (i:Nat):=rfl;have HSP:=AA (QB lv M (i:Nat) w1 HS1.out.read HS1.out.tabs HS1.out.len HS1.out.small);obtain⟨qz,hbz⟩:=HS1.out.blk;obtain⟨hglz,k0,k1, -, -, -, -, -, -,k8,fzz⟩:=hbz.cells;clear hP0 hbz fzz;rcases RS.obind_some HR2.out with⟨bd,m,h3,h4⟩|⟨er,q,h3,h4⟩
   ·have hst:E5 M (i:Nat)=⟨bd,m,0,0⟩:=by
     rcases LW (Ea.refl M (i+1)) HQ1.out rfl h3 with⟨b',m',h5,h6⟩|⟨e',q',h5,_⟩
     ·simp only[RS.ok.injEq]at h5;obtain⟨rfl,rfl⟩:=h5;exact h6
     ·cases h5
    have HRR:Hid (r=.ok ⟨name,[],bd,pl⟩ m):=AA (by simpa using h4.symm);have hml:=G0 (show(i+1)≤M.length from(Bt HQ1.out)) h3;have HML:Hid ((i+1)≤m∧m≤M.length):=AA ⟨by have:=hml.1;omega,hml.2⟩;rw[hst]at HSP;clear h3 h4 hst hml;go_wp2_with fail
    refine HSP.out.mono ?_;rintro e wz ⟨v,rfl,hos,hbz⟩;have HOS:=AA hos;have HBZ:=AA hbz;have HSZ:=AA (HS1.out.on hbz);obtain⟨Av,cv,rfl⟩:=hos.slice;have HXZ:Hid (IK wz b name (.slice none 0 0) (.slice none 0 0) pl):=AA (DD HB1.out (AG.of (P:=fun _=>False) hbz) (fun h=>h));obtain⟨qz,hbz'⟩:=HSZ.out.blk;obtain⟨hglz,k0,k1, -, -, -, -, -, -,k8,fzz⟩:=hbz'.cells;have fz1:=fzz 1;have xb2:wz.cell? ⟨b,2,none⟩=some (.slice none 0 0):=by rw[Lib.cell_of_heap (show wz.heap[b]?=_ from HXZ.out)];rfl
    have fb2:wz.frozen? ⟨b,2,none⟩=false:=Lib.frozen_of_heap (show wz.heap[b]?=_ from HXZ.out) 2;have hbg:=HA.out.bg;have hgb:=HA.out.gb;clear hos hbz hbz' fzz;go_wp2_with fail
    go_ret;rw[HRR.out];have hkb:AG (fun q=>q=b) wz (wz.setCell ⟨b,2,none⟩ (.slice Av bd.length cv)):=AG.set;have hkg:AG (fun q=>q=g) (wz.setCell ⟨b,2,none⟩ (.slice Av bd.length cv)) ((wz.setCell ⟨b,2,none⟩ (.slice Av bd.length cv)).setCell ⟨g,1,none⟩ (.int .i64 m)):=AG.set;have hkk:AG (fun q=>q=g∨q=b) wz ((wz.setCell ⟨b,2,none⟩ (.slice Av bd.length cv)).setCell ⟨g,1,none⟩ (.int .i64 m)):=hkb.trans hkg (fun _ _ h=>.inr h) (fun _ _ h=>.inl h);have hxb:IK (wz.setCell ⟨b,2,none⟩ (.slice Av bd.length cv)) b name (.slice none 0 0) (.slice Av bd.length cv) pl:=Am (show wz.heap[b]?=_ from HXZ.out)
    have hs2:=(HSZ.out.offb (OF HSZ.out HXZ.out HA.out.b8) hkb).set1 (j:=m) HML.out.2;have hno:∀(P:Nat→Prop),(∀q,P q→q=g∨q=b)→∀(T:TypeId) (cs:Array Value) q,wz.heap[q]?=some (.cells cs T (0,0))→T≠58→T≠41→¬P q:=fun P hP T cs q hh h1 h2 hq=>by
     rcases hP q hq with rfl|rfl
     ·obtain⟨qq,hqq⟩:=HSZ.out.blk;exact OE hqq hh h1 rfl
     ·have hx:=HXZ.out;unfold IK at hx;rw[hx]at hh;simp only[Option.some.injEq,Obj.cells.injEq]at hh;exact h2 hh.2.1.symm
    refine⟨(Ab HK1.out HBZ.out).trans hkk (fun _ _ h=>h) (fun _ _ h=>h.elim .inl (fun h=>.inr (.inl h))),rfl,M,(.slice none 0 0),_,Ea.refl M m,HW.out,hs2,DD hxb hkg HA.out.bg,Ky _ _,?_⟩;refine(Fh.base HOS.out HK1.out.size).keepT hkk (fun q cs T _ hh hT=>hno _ (fun q h=>h) T cs q hh ?_ ?_)
    ·simp at hT;rcases hT with rfl|rfl<;>decide
    ·simp at hT;rcases hT with rfl|rfl<;>decide
   ·have hst:er≠0∧E5 M (i:Nat)=⟨[],0,er,q⟩:=by
     rcases LW (Ea.refl M (i+1)) HQ1.out rfl h3 with⟨b',m',h5,h6⟩|⟨e',q',h5,h6,h7⟩
     ·cases h5
     ·simp only[RS.bad.injEq]at h5;obtain⟨rfl,rfl⟩:=h5;exact⟨h6,h7⟩
    have HRR:Hid (r=.bad er q):=AA h4;obtain⟨hne,hst⟩:=hst;have hne2:(er != 0)=true:=by simp[hne]
    have HNE:=AA hne;rw[hst]at HSP;clear h3 h4 hst hne;go_wp2_with fail
    refine HSP.out.mono ?_;rintro e wz ⟨v,rfl,hos,hbz⟩;have HBZ:=AA hbz;have HSZ:=AA (HS1.out.on hbz);have HXZ:Hid (IK wz b name (.slice none 0 0) (.slice none 0 0) pl):=AA (DD HB1.out (AG.of (P:=fun _=>False) hbz) (fun h=>h));obtain⟨Av,cv,rfl⟩:=hos.slice;obtain⟨qz,hbz'⟩:=HSZ.out.blk;obtain⟨hglz,k0,k1, -, -, -, -, -, -,k8,fzz⟩:=hbz'.cells;have fz8:=fzz 8;clear hos hbz hbz' fzz;go_wp2_with fail
    go_ret;rw[HRR.out];have hkg:AG (fun q=>q=g) wz (wz.setCell ⟨g,8,none⟩ (.int .i64 q)):=AG.set;exact⟨(Ab HK1.out HBZ.out).trans hkg (fun _ _ h=>h) (fun _ _ h=>.inl h),rfl,HNE.out,⟨_,(HSZ.out.set8 q).2⟩,none,0,0,DD HXZ.out hkg HA.out.bg⟩
  |true=>
   have HQ:=AA hq;have HIL:=AA (Bt hq);obtain⟨rc,hrc⟩:∃rc,Bc false M f (i+1+1)=some rc:=by
    have h1:=HR1.out;unfold GM at h1;rw[if_pos hq]at h1;rcases hc:Bc false M f (i+1+1)with _|rc
    ·rw[hc]at h1;simp at h1
    ·exact⟨rc,rfl⟩
   have HRC:=AA hrc;clear hq hrc;go_region_held3 (fun w'=>w'.cell? ⟨g,0,none⟩=some lv∧w'.cell? ⟨g,1,none⟩=some (.int .i64 ((i+1:Nat):Int))∧Below w1.heap.size w1 w')
    (first|exact⟨d0,d1,Below.refl _ _⟩|exact⟨d0,d1,AD _⟩|exact⟨(hb1.cell (p:=⟨g,0,none⟩) hgl1).trans d0,(hb1.cell (p:=⟨g,1,none⟩) hgl1).trans d1,AC (AD _) hb1⟩)
    (first|(go_at_call 77;refine(Qu HS1.out HQ.out (AD _)).mono ?_;rintro e w2 ⟨rfl,hb1⟩))
   have HB2:=AA (AC (AD w1) hb1);replace HK1:=AA (Ab HK1.out HB2.out);replace HB1:=AA (DD HB1.out (AG.of (P:=fun _=>False) HB2.out) (fun h=>h));replace HS1:=AA (HS1.out.on HB2.out);clear hb1 d0 d1 hgl1 HB2;generalize w2=w1 at *;have HROW:=AA (QBb (F:=183) (fun a w=>enters_of Tryz.func183 (by kernel_rfl) rfl a w) (fun j w' hs=>name5 hs HW.out) HS1.out HIL.out rfl HRC.out);go_wp2_with fail
   refine HROW.out.mono ?_;rintro e w3 ⟨v,l,er,rfl,hol,hl1,hk3,hp3⟩;obtain⟨AR,cR,rfl, -, -, -⟩:=hol.reads;obtain⟨nl,hnl⟩:∃nl,l.length=nl:=⟨_,rfl⟩
   rw[hnl]at hol⊢;have HNL:=AA hnl;clear hnl;have hx3:IK w3 b name (.slice none 0 0) (.slice none 0 0) pl:=DD HB1.out hk3 HA.out.bg;have HK3:Hid (AG (fun q=>q=g∨q=b∨lv.ownBlock=some q) w w3):=AA (Ak HK1.out (hk3.mono (fun _ _ h=>.inl h)));have xb1:w3.cell? ⟨b,1,none⟩=some (.slice none 0 0):=by rw[Lib.cell_of_heap (show w3.heap[b]?=_ from hx3)];rfl
   have fb1:w3.frozen? ⟨b,1,none⟩=false:=Lib.frozen_of_heap (show w3.heap[b]?=_ from hx3) 1;have hx4:IK (w3.setCell ⟨b,1,none⟩ (.slice AR nl cR)) b name (.slice AR nl cR) (.slice none 0 0) pl:=Am (show w3.heap[b]?=_ from hx3);have hkb:AG (fun q=>q=b) w3 (w3.setCell ⟨b,1,none⟩ (.slice AR nl cR)):=AG.set;have HX4:=AA hx4;have HKB:=AA hkb;have HK4:Hid (AG (fun q=>q=g∨q=b∨lv.ownBlock=some q) w (w3.setCell ⟨b,1,none⟩ (.slice AR nl cR))):=AA (Ak HK3.out (hkb.mono (fun _ _ h=>.inr (.inl h))));have HX3:=AA hx3;have HOL:=AA hol;cases rc with
   |bad e2 q=>
    obtain⟨rfl,hne,i3,hb3⟩:=hp3;have hne2:(er != 0)=true:=by simp[hne]
    have HNE:=AA hne;have HX:=AA (Ep hb3 hkb HA.out.gb);have HRR:Hid (r=.bad er q):=AA (by
     have h1:=HR1.out;unfold GM at h1;rw[if_pos HQ.out,HRC.out]at h1;simpa using h1.symm)
    clear hb3 hne hkb hx4 hx3 hol hk3;go_wp2_with fail
    go_ret;rw[HRR.out];exact⟨HK4.out,rfl,HNE.out,⟨i3,HX.out⟩,AR,nl,cR,HX4.out⟩
   |ok cs k=>
    obtain⟨rfl,hl3,hs3⟩:=hp3;rw[List.nil_append]at hl3;subst hl3;have hck:=FD _ _ _ HRC.out;have HR2:Hid ((RS.obind (Fo M f k i) fun b m=>some (.ok ⟨name,cs.map (·.name),b,pl⟩ m))=some r):=AA (by
     have h1:=HR1.out;unfold GM at h1;rw[if_pos HQ.out,HRC.out]at h1;simpa using h1)
    have HS3:=AA hs3;have HCK:Hid (i+1+1<k∧k≤M.length):=AA hck;have HS4:=AA (hs3.offb (OF hs3 HX3.out HA.out.b8) hkb);have HRG:Hid (C9 (w3.setCell ⟨b,1,none⟩ (.slice AR nl cR)) w.heap.size (.slice AR nl cR) (cs.map (·.name))):=AA ((C9.base hol HK1.out.size).keepG hkb (fun q hq e=>by
     obtain⟨_,cs2,h1⟩:=AM hol q hq;have h2:=HX3.out;unfold IK at h2;rw[e,h2]at h1;simp at h1))
    clear hs3 hkb hx4 hx3 hol hk3 hck;go_wp2_with fail
    generalize w3.setCell ⟨b,1,none⟩ (.slice AR nl cR)=w4 at *;cases hend:decide (M.length≤k)with
    |true=>
     have HE:=AA (MC HS4.out hend);have hkM:M.length≤k:=by simpa using hend
     have HRR:Hid (r=.bad 6 (AT M k)):=AA (by
      rcases RS.obind_some HR2.out with⟨bd,m,h3,h4⟩|⟨er,q,h3,h4⟩
      ·have:=rest_end hkM h3;cases this
      ·have h5:=rest_end hkM h3;rw[h4];simp only[RS.bad.injEq]at h5;rw[h5.1,h5.2])
     have HEQ:Hid ((if k<M.length then(5:Int)else 6)=6):=AA (by rw[if_neg (by omega)]);clear hend hkM;refine HE.out.mono ?_;rintro e w5 ⟨rfl,hb5⟩;have HB5:=AA hb5;have HS5:=AA (HS4.out.on hb5);clear hb5;go_wp2_with fail
     refine(K3 HS5.out).mono ?_;rw[HEQ.out];rintro e w6 ⟨rfl,hs6,hb6,hk6⟩;have HB6:=AA hb6;have HK6:=AA hk6;clear hs6 hb6 hk6;go_wp2_with fail
     go_ret;rw[HRR.out];exact⟨Ak (Ab HK4.out HB5.out) (HK6.out.mono (fun _ _ h=>.inl h)),rfl,by decide,⟨_,HB6.out⟩,AR,nl,cR,DD (DD HX4.out (AG.of (P:=fun _=>False) HB5.out) (fun h=>h)) HK6.out HA.out.bg⟩
    |false=>
     obtain⟨fx,rfl⟩:∃fx,k=fx+1:=⟨k-1,by have:=HCK.out;omega⟩
     have HE:=AA (MC HS4.out hend);have HLT:Hid (fx+1<M.length):=AA (by simpa using hend);have hfi:i+1<fx:=by have:=HCK.out;omega
     clear hend;refine HE.out.mono ?_;rintro e w5 ⟨rfl,hb5⟩;have HB5:=AA hb5;have HS5:=AA (HS4.out.on hb5);have HX5:=AA (DD HX4.out (AG.of (P:=fun _=>False) hb5) (fun h=>h));have HK5:=AA (Ab HK4.out hb5);replace HRG:=AA (HRG.out.on hb5);obtain⟨t,ht⟩:∃t,M[i]?=some t:=⟨M[i]'(by have:=HLT.out;omega),List.getElem?_eq_getElem _⟩
     obtain⟨tf,htf⟩:∃t,M[fx]?=some t:=⟨M[fx]'(by have:=HLT.out;omega),List.getElem?_eq_getElem _⟩
     obtain⟨tb,tc,hlv,hc,htb,t0,t1,t2,t3⟩:=HS5.out.tok ht;obtain⟨tb',tc',hlv',hc',htb',u0,u1,u2,u3⟩:=HS5.out.tok htf;have hlv2:=hlv;rw[hlv]at hlv';simp only[Value.slice.injEq,Option.some.injEq,Addr.mk.injEq,and_true,true_and]at hlv';obtain⟨rfl,rfl⟩:=hlv';obtain⟨qy,hqy⟩:=HS5.out.blk;obtain⟨hgl5,k0,k1, -, -, -, -, -, -, -, -⟩:=hqy.cells;have hfr:∀n,w5.frozen? ⟨tb,n,none⟩=false:=fun n=>by
      obtain⟨_,cs2,hh⟩:=AM HS5.out.toks tb (by rw[hlv];rfl);exact Lib.frozen_of_heap hh n
     have fr0:=hfr (fx*4);have fr1:=hfr (fx*4+1);have fr2:=hfr (fx*4+2);have fr3:=hfr (fx*4+3);have hwa:IntKind.i64.wrap ((fx:Int)+1-1)=(fx:Int):=by rw[show(fx:Int)+1-1=fx by omega];exact IntWalk.i64_in _ (by have:=HLT.out;omega)
     have hwb:IntKind.i64.wrap (fx:Int)=(fx:Int):=IntWalk.i64_in _ (by have:=HLT.out;omega);have hi0:(0:Int)≤(i:Int):=by omega
     have hi1:(i:Int)<(M.length:Int):=by have:=HLT.out;omega
     have hf0:(0:Int)≤(fx:Int):=by omega
     have hf1:(fx:Int)<(M.length:Int):=by have:=HLT.out;omega
     have HQF:Hid (isB (M.set fx t) fx [123]=true):=AA (by rw[QDd ht (by omega)];exact HQ1.out);have HPF:Hid (AT (M.set fx t) fx=AT M i):=AA (Zj ht (by omega));have HTT:=AA ht;have HLV:=AA hlv;clear hb5 hfr hqy ht htf hlv2;subst hlv;go_wp2_with fail
     go_region
     have HW6:=AA (Wu (j:=fx) HW.out HTT.out);obtain⟨w6,hw6⟩:∃w6,(Wt w5 tb fx t).drew=w6:=⟨_,rfl⟩
     rw[show((((w5.setCell ⟨tb,fx*4,none⟩ (.int .i64 t.kind)).setCell ⟨tb,fx*4+1,none⟩ (.string ⟨t.text.toArray⟩)).setCell ⟨tb,fx*4+2,none⟩ (.int .i64 t.n)).setCell ⟨tb,fx*4+3,none⟩ (.int .i64 t.pl)).drew=w6 from hw6];have hkt:AG (fun q=>q=tb) w5 w6:=by rw[←hw6];exact Ab (VH w5 tb fx t) (AD _)
     have htg:¬g=tb:=fun e=>HA.out.gl tb rfl e.symm
     have htb2:¬b=tb:=fun e=>HA.out.bl tb rfl e.symm
     have HB6:=AA (DD HX5.out hkt htb2);have HK6:Hid (AG (fun q=>q=g∨q=b∨(Value.slice (some ⟨tb,0,none⟩) M.length tc).ownBlock=some q) w w6):=AA (Ak HK5.out (hkt.mono (fun q _ h=>.inr (.inr (by rw[h];rfl)))));have HS6:Hid (S5 (M.set fx t) B g (.slice (some ⟨tb,0,none⟩) M.length tc) (fx+1) p w6):=AA (by
      obtain⟨qy,hqy⟩:=HS5.out.blk;refine⟨⟨qy,Ep hqy hkt htg⟩,?_,HS5.out.tabs.same fun k hk8=>hkt.block k (by have:=HS5.out.tabs.lt2;omega) (by
       have h1:=(HS5.out.own_ne tb rfl).2.2;have h2:=HS5.out.BB;omega),HS5.out.gB,HS5.out.BB,by rw[List.length_set];exact HS5.out.len,Zi HS5.out.small HTT.out,by rw[List.length_set];exact HS5.out.il⟩
      rw[←hw6];exact AW (QBc HS5.out.toks (by have:=HLT.out;omega)) (AG.of (P:=fun _=>False) (AD _)) (fun _ _ h=>h))
     replace HRG:=AA (HRG.out.keepG hkt (fun q hq e=>by
      obtain⟨_,cs2,h1⟩:=AM HRG.out q hq;obtain⟨_,cs3,h2⟩:=AM HS5.out.toks tb rfl;rw[e,h2]at h1;simp at h1))
     clear hw6 hkt t0 t1 t2 t3 u0 u1 u2 u3 fr0 fr1 fr2 fr3 k0 k1 hwa hwb hi0 hi1 hf0 hf1;have hP0:E5 (M.set fx t) (fx:Nat)=E5 (M.set fx t) (fx:Nat):=rfl;have HSP:=AA (QB _ (M.set fx t) (fx:Nat) w6 HS6.out.read HS6.out.tabs HS6.out.len HS6.out.small);obtain⟨qz,hbz⟩:=HS6.out.blk;obtain⟨hglz,k0,k1, -, -, -, -, -, -,k8,fzz⟩:=hbz.cells;clear hP0 hbz fzz;rcases RS.obind_some HR2.out with⟨bd,m,h3,h4⟩|⟨er,q,h3,h4⟩
     ·have hst:E5 (M.set fx t) (fx:Nat)=⟨bd,m,0,0⟩:=by
       rcases LW (Tc (Nat.lt_succ_self fx) HLT.out) HQF.out HPF.out h3 with⟨b',m',h5,h6⟩|⟨e',q',h5,_⟩
       ·simp only[RS.ok.injEq]at h5;obtain⟨rfl,rfl⟩:=h5;exact h6
       ·cases h5
      have HRR:Hid (r=.ok ⟨name,(cs.map (·.name)),bd,pl⟩ m):=AA (by simpa using h4.symm);have hml:=G0 (show(fx+1)≤M.length from(Nat.le_of_lt HLT.out)) h3;have HML:Hid ((fx+1)≤m∧m≤M.length):=AA ⟨by have:=hml.1;omega,hml.2⟩;rw[hst]at HSP;clear h3 h4 hst hml;go_wp2_with fail
      refine HSP.out.mono ?_;rintro e wz ⟨v,rfl,hos,hbz⟩;have HOS:=AA hos;have HBZ:=AA hbz;have HSZ:=AA (HS6.out.on hbz);obtain⟨Av,cv,rfl⟩:=hos.slice;have HXZ:Hid (IK wz b name (.slice AR nl cR) (.slice none 0 0) pl):=AA (DD HB6.out (AG.of (P:=fun _=>False) hbz) (fun h=>h));obtain⟨qz,hbz'⟩:=HSZ.out.blk;obtain⟨hglz,k0,k1, -, -, -, -, -, -,k8,fzz⟩:=hbz'.cells;have fz1:=fzz 1;have xb2:wz.cell? ⟨b,2,none⟩=some (.slice none 0 0):=by rw[Lib.cell_of_heap (show wz.heap[b]?=_ from HXZ.out)];rfl
      have fb2:wz.frozen? ⟨b,2,none⟩=false:=Lib.frozen_of_heap (show wz.heap[b]?=_ from HXZ.out) 2;have hbg:=HA.out.bg;have hgb:=HA.out.gb;clear hos hbz hbz' fzz;go_wp2_with fail
      go_ret;rw[HRR.out];have hkb:AG (fun q=>q=b) wz (wz.setCell ⟨b,2,none⟩ (.slice Av bd.length cv)):=AG.set;have hkg:AG (fun q=>q=g) (wz.setCell ⟨b,2,none⟩ (.slice Av bd.length cv)) ((wz.setCell ⟨b,2,none⟩ (.slice Av bd.length cv)).setCell ⟨g,1,none⟩ (.int .i64 m)):=AG.set;have hkk:AG (fun q=>q=g∨q=b) wz ((wz.setCell ⟨b,2,none⟩ (.slice Av bd.length cv)).setCell ⟨g,1,none⟩ (.int .i64 m)):=hkb.trans hkg (fun _ _ h=>.inr h) (fun _ _ h=>.inl h);have hxb:IK (wz.setCell ⟨b,2,none⟩ (.slice Av bd.length cv)) b name (.slice AR nl cR) (.slice Av bd.length cv) pl:=Am (show wz.heap[b]?=_ from HXZ.out)
      have hs2:=(HSZ.out.offb (OF HSZ.out HXZ.out HA.out.b8) hkb).set1 (j:=m) (by rw[List.length_set];exact HML.out.2);have hno:∀(P:Nat→Prop),(∀q,P q→q=g∨q=b)→∀(T:TypeId) (cs:Array Value) q,wz.heap[q]?=some (.cells cs T (0,0))→T≠58→T≠41→¬P q:=fun P hP T cs q hh h1 h2 hq=>by
       rcases hP q hq with rfl|rfl
       ·obtain⟨qq,hqq⟩:=HSZ.out.blk;exact OE hqq hh h1 rfl
       ·have hx:=HXZ.out;unfold IK at hx;rw[hx]at hh;simp only[Option.some.injEq,Obj.cells.injEq]at hh;exact h2 hh.2.1.symm
      refine⟨(Ab HK6.out HBZ.out).trans hkk (fun _ _ h=>h) (fun _ _ h=>h.elim .inl (fun h=>.inr (.inl h))),rfl,(M.set fx t),(.slice AR nl cR),_,(Tc (Nat.lt_succ_self fx) HLT.out).on HML.out.1,HW6.out,hs2,DD hxb hkg HA.out.bg,(HRG.out.on HBZ.out).keepG hkk (fun q hq=>hno _ (fun q h=>h) 9 _ q (AM (HRG.out.on HBZ.out) q hq).2.choose_spec (by decide) (by decide)),?_⟩;refine(Fh.base HOS.out HK6.out.size).keepT hkk (fun q cs T _ hh hT=>hno _ (fun q h=>h) T cs q hh ?_ ?_)
      ·simp at hT;rcases hT with rfl|rfl<;>decide
      ·simp at hT;rcases hT with rfl|rfl<;>decide
     ·have hst:er≠0∧E5 (M.set fx t) (fx:Nat)=⟨[],0,er,q⟩:=by
       rcases LW (Tc (Nat.lt_succ_self fx) HLT.out) HQF.out HPF.out h3 with⟨b',m',h5,h6⟩|⟨e',q',h5,h6,h7⟩
       ·cases h5
       ·simp only[RS.bad.injEq]at h5;obtain⟨rfl,rfl⟩:=h5;exact⟨h6,h7⟩
      have HRR:Hid (r=.bad er q):=AA h4;obtain⟨hne,hst⟩:=hst;have hne2:(er != 0)=true:=by simp[hne]
      have HNE:=AA hne;rw[hst]at HSP;clear h3 h4 hst hne;go_wp2_with fail
      refine HSP.out.mono ?_;rintro e wz ⟨v,rfl,hos,hbz⟩;have HBZ:=AA hbz;have HSZ:=AA (HS6.out.on hbz);have HXZ:Hid (IK wz b name (.slice AR nl cR) (.slice none 0 0) pl):=AA (DD HB6.out (AG.of (P:=fun _=>False) hbz) (fun h=>h));obtain⟨Av,cv,rfl⟩:=hos.slice;obtain⟨qz,hbz'⟩:=HSZ.out.blk;obtain⟨hglz,k0,k1, -, -, -, -, -, -,k8,fzz⟩:=hbz'.cells;have fz8:=fzz 8;clear hos hbz hbz' fzz;go_wp2_with fail
      go_ret;rw[HRR.out];have hkg:AG (fun q=>q=g) wz (wz.setCell ⟨g,8,none⟩ (.int .i64 q)):=AG.set;exact⟨(Ab HK6.out HBZ.out).trans hkg (fun _ _ h=>h) (fun _ _ h=>.inl h),rfl,HNE.out,⟨_,(HSZ.out.set8 q).2⟩,AR,nl,cR,DD HXZ.out hkg HA.out.bg⟩
end
end Go.Proofs.YthfkpalfopdmhaaGreatDoor
namespace Go.Proofs.YthfkpalfopdmhaaGreatDoor
open Go.RowKit
def KO (g:Nat) (lv:Value) (N q:Nat):Prop:=q=g∨lv.ownBlock=some q∨N≤q
def Gf {ρ:Type} (g:Nat) (lv:Value) (N:Nat) (r:RS ρ) (ok:ρ→Nat→World→Prop) (w:World) (e:Ending) (w':World):Prop:=
 AG (KO g lv N) w w'∧match r with
 |.ok a j=>e=.returned (.int .i64 0)∧ok a j w'
 |.bad er q=>e=.returned (.int .i64 er)∧er≠0∧∃(i:Int) (p':Pv),Bl w' g lv i p' q
section
variable {M:List Tok} {B g i N:Nat} {lv:Value} {p:Pv} {w:World}
theorem QDe:(Tryz.prog.info? 23).map (fun i=>(i.zero,i.size,i.bytes))=some (some (.slice none 0 0),1,24):=by kernel_rfl
theorem Xs:(Tryz.prog.info? 41).map (fun i=>(i.zero,i.size,i.bytes))=some (some (.agg #[.string ⟨#[]⟩,.slice none 0 0,.slice none 0 0,.int .i64 0]),4,72):=by kernel_rfl
theorem QDf:(Tryz.prog.info? 50).map (fun i=>(i.zero,i.size,i.bytes))=some (some (.agg #[.slice none 0 0,.int .i64 0]),2,32):=by kernel_rfl
theorem Cc {w1:World} (h:AG (fun q=>q=g) w w1):AG (KO g lv N) w w1:=h.mono (fun _ _ h=>.inl h)
theorem MD {w1 w2:World} {T m n:Nat} {v:Value} {xs:List Value} (hk:AG (KO g lv N) w w1) (hown:w1.ownsRow N T m v n xs) (hg:w1.grownBy w2 v.ownBlock):AG (KO g lv N) w w2:=
 hk.trans (AG.grown hg) (fun _ _ h=>h) (fun k _ e=>.inr (.inr (AM hown k e).1))
set_option maxRecDepth 100000 in
set_option maxHeartbeats 8000000 in
theorem QET (h:S5 M B g lv i p w) (hwd:CJ M) (hgN:g<N) (hNw:N≤w.heap.size) {ls:List (List Cel)} (ho:Is w N p.a ls) (hls:ls.length≤10000) (hi:i<M.length) {F:Nat} {r:RS (List Cel)} (hr:Bc true M F (i+1)=some r):
  Calls Tryz.prog 134 #[.pointer (some ⟨g,0,none⟩)] w (Gf g lv N r (fun cs j w'=>∃v',S5 M B g lv j {p with a:=v'} w'∧Is w' N v' (ls++[cs])) w):=by
 obtain⟨i0,hi0,hz0,hz1,hz2⟩:=info_parts QDe;have HZ:=AA (show Tryz.prog.info? 23=some i0∧i0.zero=some (.slice none 0 0)∧i0.size=1∧i0.bytes=24 from⟨hi0,hz0,hz1,hz2⟩);obtain⟨K,hK,hmap⟩:=ho;have HKO:=AA hK;have HMP:=AA hmap;have HKL:Hid (K.length≤10000):=AA (by rw[←hmap,List.length_map]at hls;exact hls);have HH:=AA h;have HROW:=AA (QV (F:=181) (fun a w=>enters_of Tryz.func181 (by kernel_rfl) rfl a w) (fun j w' hs=>QES hs hwd) h hi hr);have HGN:=AA hgN;have HNW:=AA hNw;clear hi0 hz0 hz1 hz2 hK hmap h hr hi hwd hls hgN hNw;go_enter Tryz.func134,Tryz.ntmps134;go_wp2_with fail
 refine HROW.out.mono ?_;rintro e w2 ⟨v,l,er,rfl,hol,hl1,hk2,hp2⟩;obtain⟨AR,cR,rfl, -, -, -⟩:=hol.reads;have hblk:∃i2 q2,Bl w2 g lv i2 p q2:=by
  cases r with
  |ok a j=>obtain⟨_,_,hs⟩:=hp2;obtain⟨q,hq⟩:=hs.blk;exact⟨_,q,hq⟩
  |bad e2 q=>obtain⟨_,_,i2,hb⟩:=hp2;exact⟨i2,q,hb⟩
 obtain⟨i2,q2,hb2⟩:=hblk;obtain⟨hgl, -, -,c2, -, -, -, -, -, -,fz⟩:=hb2.cells;have f2:=fz 2;have HB2:=AA hb2;have HK2:=AA hk2;have HOL:=AA hol;have HP2:=AA hp2;have HRW:Hid (w2.ownsRow N 23 1 p.a K.length (K.map (·.v))):=AA (AW HKO.out.row hk2 (fun q hq e=>by have:=(AM HKO.out.row q hq).1;have:=HGN.out;omega));clear hb2 hk2 hol hp2 fz
 go_wp2_with (at_builtin;refine wpList_append_own _ rfl (.tmp 15) (.tmp 17) 22 rfl N 23 i0 (.slice none 0 0) 1 24 Tryz.underlying22 HZ.out.1 HZ.out.2.1 HZ.out.2.2.1 HZ.out.2.2.2 rfl (by decide) _ K.length (K.map (·.v)) rfl ?dO ⟨w2.heap.size,0,none⟩ 1 1 [.slice AR l.length cR] (by rfl) (by rfl) ?d1 ?d2 ?d3 ?d4 ?d5 ?_)
 case dO=>exact AW HRW.out (AG.of (P:=fun _=>False) ((Below.refl _ _).alloc (Nat.le_refl _) _)) (fun _ _=>id)
 case d1=>exact cell_one_new _ _ _
 case d2=>intro u hu;simp at hu;subst hu;rfl
 case d3=>have:=HKL.out;unfold maxLen;omega
 case d4=>have:=HKL.out;omega
 case d5=>have:=HNW.out;have:=HK2.out.size;simp;omega
 intro v5 w5 hown5 hgrow5 _;have hrw1:(w2.alloc (.cells #[.slice AR l.length cR] 23)).ownsRow N 23 1 p.a K.length (K.map (·.v)):=AW HRW.out (AG.of (P:=fun _=>False) ((Below.refl _ _).alloc (Nat.le_refl _) _)) (fun _ _=>id);have hka:AG (fun q=>q=g) w (w2.alloc (.cells #[.slice AR l.length cR] 23)):=Ab HK2.out ((Below.refl _ _).alloc (Nat.le_refl _) _);have hb2a:Bl (w2.alloc (.cells #[.slice AR l.length cR] 23)) g lv i2 p q2:=HB2.out.on ((Below.refl _ _).alloc (Nat.le_refl _) _);have hng:¬p.a.ownBlock=some g:=fun e=>by have:=(AM hrw1 g e).1;have:=HGN.out;omega
 have hb5:Bl w5 g lv i2 p q2:=Ep hb2a (AG.grown hgrow5) hng;have HK5:Hid (AG (KO g lv N) w w5):=AA (MD (Cc hka) hrw1 hgrow5);have HB5:=AA hb5;have HOW:=AA hown5;have HKS:Hid (AG (fun q=>q=g∨p.a.ownBlock=some q) w w5):=AA (hka.trans (AG.grown hgrow5) (fun _ _ h=>.inl h) (fun _ _ h=>.inr h));have HKR:Hid (AG (fun q=>p.a.ownBlock=some q) w2 w5):=AA (ES ((Below.refl _ _).alloc (Nat.le_refl _) _) (AG.grown hgrow5));obtain⟨A5,n5,c5,rfl⟩:∃A n c,v5=.slice A n c:=by
  obtain⟨A,c,hv,_⟩:=AX hown5;exact⟨A,_,c,hv⟩
 obtain⟨hgl5, -, -,d2, -, -, -, -, -, -,fz5⟩:=hb5.cells;have g2:=fz5 2;clear hrw1 hka hb2a hng hb5 hown5 hgrow5 fz5 c2 f2 hgl;go_wp2_with fail
 go_ret;have hks:AG (fun q=>q=g) w5 (w5.setCell ⟨g,2,none⟩ (.slice A5 n5 c5)):=AG.set;have hbk:Bl (w5.setCell ⟨g,2,none⟩ (.slice A5 n5 c5)) g lv i2 {p with a:=.slice A5 n5 c5} q2:=Am HB5.out;refine⟨Ak HK5.out (Cc hks),?_⟩;have h2:=HP2.out;cases r with
 |bad e2 q=>
  obtain⟨rfl,hne,i3,hb3⟩:=h2;refine⟨rfl,hne,i2,{p with a:=.slice A5 n5 c5},?_⟩;have hq:q2=q:=by
   have h3:=HB2.out;unfold Bl at h3 hb3;rw[h3]at hb3;simp at hb3;exact hb3.2
  rw[←hq];exact hbk
 |ok a j=>
  obtain⟨rfl,rfl,hs⟩:=h2;refine⟨rfl,.slice A5 n5 c5,?_,?_⟩
  ·have hi2:i2=j:=by
    obtain⟨q3,hq3⟩:=hs.blk;have h3:=HB2.out;unfold Bl at h3 hq3;rw[h3]at hq3;simp at hq3;exact hq3.1
   subst hi2;exact(hs.far HKR.out (fun e=>by have:=(AM HRW.out g e).1;have:=HGN.out;omega) (fun q hq e=>by
    obtain⟨_,cs1,h5⟩:=AM HRW.out q e;obtain⟨_,cs2,h6⟩:=AM hs.toks q hq;rw[h5]at h6;simp at h6) (fun q hq e=>by have:=(AM HRW.out q e).1;have:=HGN.out;have:=hs.gB;omega)).put hks hbk hs.il
  ·refine⟨K++[⟨l,.slice AR l.length cR⟩],⟨?_,fun x hx=>?_⟩,by rw[List.map_append,HMP.out];rfl⟩
   ·have h6:w5.ownsRow N 23 1 (.slice A5 n5 c5) (K.length+1) (K.map (·.v)++[.slice AR l.length cR]):=HOW.out;rw[List.length_append,List.map_append];exact AW h6 hks (fun q hq e=>by have:=(AM h6 q hq).1;have:=HGN.out;omega)
   ·rcases List.mem_append.1 hx with hx|hx
    ·refine((HKO.out.sub x hx).keepT HKS.out (fun q cs T hB hh hT=>?_)).keepT hks (fun q cs T hB hh hT e=>?_)
     ·simp at hT;subst hT;rintro(e|e)
      ·have:=HGN.out;omega
      ·obtain⟨_,cs1,h5⟩:=AM HKO.out.row q e;rw[h5]at hh;simp at hh
     ·have:=HGN.out;omega
    ·obtain rfl:x=⟨l,.slice AR l.length cR⟩:=by simpa using hx
     refine((CX.base HOL.out HNW.out).keepT HKR.out (fun q cs T hB hh hT e=>?_)).keepT hks (fun q cs T hB hh hT e=>?_)
     ·simp at hT;subst hT;obtain⟨_,cs1,h5⟩:=AM HRW.out q e;rw[h5]at hh;simp at hh
     ·have:=HGN.out;omega
set_option maxRecDepth 100000 in
set_option maxHeartbeats 8000000 in
theorem QEU (h:S5 M B g lv i p w) (hwd:CJ M) (hgN:g<N) (hNw:N≤w.heap.size) {cs0:List Cel} (ho:CX w N p.b cs0) (hls:cs0.length≤10000) (hi:i<M.length) {F:Nat} {r:RS (List Cel)} (hr:Bc true M F (i+1)=some r):
  Calls Tryz.prog 135 #[.pointer (some ⟨g,0,none⟩)] w (Gf g lv N r (fun cs j w'=>∃v',S5 M B g lv j {p with b:=v'} w'∧CX w' N v' (cs0++cs)) w):=by
 obtain⟨i0,hi0,hz0,hz1,hz2⟩:=info_parts On;have HZ:=AA (show Tryz.prog.info? 48=some i0∧i0.zero=some (.agg #[.string ⟨#[]⟩,.int .i64 0,.int .i64 0])∧i0.size=3∧i0.bytes=32 from⟨hi0,hz0,hz1,hz2⟩);have HKO:=AA ho;have HKL:=AA hls;have HH:=AA h;have HROW:=AA (QV (F:=181) (fun a w=>enters_of Tryz.func181 (by kernel_rfl) rfl a w) (fun j w' hs=>QES hs hwd) h hi hr);have HGN:=AA hgN;have HNW:=AA hNw;clear hi0 hz0 hz1 hz2 ho h hr hi hwd hls hgN hNw;go_enter Tryz.func135,Tryz.ntmps135;go_wp2_with fail
 refine HROW.out.mono ?_;rintro e w2 ⟨v,l,er,rfl,hol,hl1,hk2,hp2⟩;have hblk:∃i2 q2,Bl w2 g lv i2 p q2:=by
  cases r with
  |ok a j=>obtain⟨_,_,hs⟩:=hp2;obtain⟨q,hq⟩:=hs.blk;exact⟨_,q,hq⟩
  |bad e2 q=>obtain⟨_,_,i2,hb⟩:=hp2;exact⟨i2,q,hb⟩
 obtain⟨i2,q2,hb2⟩:=hblk;obtain⟨hgl, -, -,k2,k3,k4,k5,k6,k7, -,fz⟩:=hb2.cells;have f2:=fz 3;have HB2:=AA hb2;have HK2:=AA hk2;have HOL:=AA hol;have HP2:=AA hp2;have HRW:Hid (w2.ownsRow N 48 3 p.b cs0.length (cs0.flatMap Bd)):=AA (AW HKO.out hk2 (fun q hq e=>by have:=(AM HKO.out q hq).1;have:=HGN.out;omega));have FIN:Hid (∀(v5:Value) (w5:World),w5.ownsRow N 48 3 v5 (cs0.length+l.length) (cs0.flatMap Bd++l.flatMap Bd)→w2.grownBy w5 p.b.ownBlock→
   Gf g lv N r (fun cs j w'=>∃v',S5 M B g lv j {p with b:=v'} w'∧CX w' N v' (cs0++cs)) w (.returned (.int .i64 er)) (w5.setCell ⟨g,3,none⟩ v5)):=AA (by
  intro v5 w5 hown5 hgrow5;have hng:¬p.b.ownBlock=some g:=fun e=>by have:=(AM HRW.out g e).1;have:=HGN.out;omega
  have hb5:Bl w5 g lv i2 p q2:=Ep HB2.out (AG.grown hgrow5) hng;have hks:AG (fun q=>q=g) w5 (w5.setCell ⟨g,3,none⟩ v5):=AG.set;have hbk:Bl (w5.setCell ⟨g,3,none⟩ v5) g lv i2 {p with b:=v5} q2:=Am hb5;refine⟨Ak (MD (Cc HK2.out) HRW.out hgrow5) (Cc hks),?_⟩;have h2:=HP2.out;cases r with
  |bad e2 q=>
   obtain⟨rfl,hne,i3,hb3⟩:=h2;refine⟨rfl,hne,i2,{p with b:=v5},?_⟩;have hq:q2=q:=by
    have h3:=HB2.out;unfold Bl at h3 hb3;rw[h3]at hb3;simp at hb3;exact hb3.2
   rw[←hq];exact hbk
  |ok a j=>
   obtain⟨rfl,rfl,hs⟩:=h2;have hi2:i2=j:=by
    obtain⟨q3,hq3⟩:=hs.blk;have h3:=HB2.out;unfold Bl at h3 hq3;rw[h3]at hq3;simp at hq3;exact hq3.1
   subst hi2;refine⟨rfl,v5,(hs.far (AG.grown hgrow5) hng (fun q hq e=>by
    obtain⟨_,cs1,h5⟩:=AM HRW.out q e;obtain⟨_,cs2,h6⟩:=AM hs.toks q hq;rw[h5]at h6;simp at h6) (fun q hq e=>by have:=(AM HRW.out q e).1;have:=HGN.out;have:=hs.gB;omega)).put hks hbk hs.il,?_⟩
   unfold CX;rw[List.length_append,List.flatMap_append];exact AW hown5 hks (fun q hq e=>by have:=(AM hown5 q hq).1;have:=HGN.out;omega))
 rcases hol.2 with⟨rfl,hl0⟩|⟨gr,cap,cur,rfl,hgr,hhr, -, -, -, -⟩
 ·have hln:l=[]:=List.length_eq_zero_iff.1 hl0;subst hln;obtain⟨Ap,np,cp,hvp⟩:∃A n c,p.b=.slice A n c:=by
   obtain⟨A,c,hv,_⟩:=AX HRW.out;exact⟨A,_,c,hv⟩
  have HVP:=AA hvp;rw[hvp]at k3;clear hb2 hk2 hol hp2 fz hvp hl0;go_wp2_with (at_builtin;refine wpList_append_own_none rfl (.tmp 15) (.tmp 16) 23 rfl N 48 i0 3 Tryz.underlying23 HZ.out.1 (.slice Ap np cp) cs0.length (cs0.flatMap Bd) rfl (by rw[←HVP.out];exact HRW.out) rfl ?_)
  go_ret;have h9:=FIN.out p.b w2 (by simpa using HRW.out) ⟨rfl,rfl,rfl,Nat.le_refl _,fun _ _ _=>rfl⟩;rw[HVP.out]at h9;exact h9
 ·have HAR:Hid (∀j u,(l.flatMap Bd)[j]?=some u→w2.cell? ((⟨gr,0,none⟩:Addr).add j)=some u):=AA (World.ownsRow.cells hol rfl);have HLE:=AA (U5 hol);have HL1:=AA hl1;clear hb2 hk2 hol hp2 fz hgr hhr hl1;go_wp2_with (at_builtin;refine wpList_append_own _ rfl (.tmp 15) (.tmp 16) 23 rfl N 48 i0 (.agg #[.string ⟨#[]⟩,.int .i64 0,.int .i64 0]) 3 32 Tryz.underlying23 HZ.out.1 HZ.out.2.1 HZ.out.2.2.1 HZ.out.2.2.2 rfl (by decide) _ cs0.length (cs0.flatMap Bd) rfl ?dO ⟨gr,0,none⟩ l.length cap (l.flatMap Bd) (by rfl) ?d0 ?d1 ?d2 ?d3 ?d4 ?d5 ?_)
  case dO=>exact HRW.out
  case d0=>exact HLE.out
  case d1=>exact HAR.out
  case d2=>
   intro u hu;obtain⟨c,_,hc⟩:=List.mem_flatMap.1 hu;exact Oo c u hc
  case d3=>have:=HKL.out;have:=HL1.out;unfold maxLen;omega
  case d4=>have:=HKL.out;have:=HL1.out;omega
  case d5=>have:=HNW.out;have:=HK2.out.size;omega
  intro v5 w5 hown5 hgrow5 _;have hng:¬p.b.ownBlock=some g:=fun e=>by have:=(AM HRW.out g e).1;have:=HGN.out;omega
  have hb5:Bl w5 g lv i2 p q2:=Ep HB2.out (AG.grown hgrow5) hng;obtain⟨A5,n5,c5,rfl⟩:∃A n c,v5=.slice A n c:=by
   obtain⟨A,c,hv,_⟩:=AX hown5;exact⟨A,_,c,hv⟩
  have HRES:=AA (FIN.out _ w5 hown5 hgrow5);obtain⟨hgl5, -, -,m2,m3,m4,m5,m6,m7, -,fz5⟩:=hb5.cells;have g2:=fz5 3;clear hng hb5 hown5 hgrow5 fz5 k2 k3 k4 k5 k6 k7 f2 hgl;go_wp2_with fail
  go_ret;exact HRES.out
set_option maxRecDepth 100000 in
set_option maxHeartbeats 8000000 in
theorem QBf (h:S5 M B g lv i p w) (hwd:CJ M) (hgN:g<N) (hNw:N≤w.heap.size) {cs0:List Cel} (ho:CX w N p.c cs0) (hls:cs0.length≤10000) (hi:i<M.length) {F:Nat} {r:RS (List Cel)} (hr:Bc false M F (i+1)=some r):
  Calls Tryz.prog 136 #[.pointer (some ⟨g,0,none⟩)] w (Gf g lv N r (fun cs j w'=>∃v',S5 M B g lv j {p with c:=v'} w'∧CX w' N v' (cs0++cs)) w):=by
 obtain⟨i0,hi0,hz0,hz1,hz2⟩:=info_parts On;have HZ:=AA (show Tryz.prog.info? 48=some i0∧i0.zero=some (.agg #[.string ⟨#[]⟩,.int .i64 0,.int .i64 0])∧i0.size=3∧i0.bytes=32 from⟨hi0,hz0,hz1,hz2⟩);have HKO:=AA ho;have HKL:=AA hls;have HH:=AA h;have HROW:=AA (QV (F:=182) (fun a w=>enters_of Tryz.func182 (by kernel_rfl) rfl a w) (fun j w' hs=>QER hs hwd) h hi hr);have HGN:=AA hgN;have HNW:=AA hNw;clear hi0 hz0 hz1 hz2 ho h hr hi hwd hls hgN hNw;go_enter Tryz.func136,Tryz.ntmps136;go_wp2_with fail
 refine HROW.out.mono ?_;rintro e w2 ⟨v,l,er,rfl,hol,hl1,hk2,hp2⟩;have hblk:∃i2 q2,Bl w2 g lv i2 p q2:=by
  cases r with
  |ok a j=>obtain⟨_,_,hs⟩:=hp2;obtain⟨q,hq⟩:=hs.blk;exact⟨_,q,hq⟩
  |bad e2 q=>obtain⟨_,_,i2,hb⟩:=hp2;exact⟨i2,q,hb⟩
 obtain⟨i2,q2,hb2⟩:=hblk;obtain⟨hgl, -, -,k2,k3,k4,k5,k6,k7, -,fz⟩:=hb2.cells;have f2:=fz 4;have HB2:=AA hb2;have HK2:=AA hk2;have HOL:=AA hol;have HP2:=AA hp2;have HRW:Hid (w2.ownsRow N 48 3 p.c cs0.length (cs0.flatMap Bd)):=AA (AW HKO.out hk2 (fun q hq e=>by have:=(AM HKO.out q hq).1;have:=HGN.out;omega));have FIN:Hid (∀(v5:Value) (w5:World),w5.ownsRow N 48 3 v5 (cs0.length+l.length) (cs0.flatMap Bd++l.flatMap Bd)→w2.grownBy w5 p.c.ownBlock→
   Gf g lv N r (fun cs j w'=>∃v',S5 M B g lv j {p with c:=v'} w'∧CX w' N v' (cs0++cs)) w (.returned (.int .i64 er)) (w5.setCell ⟨g,4,none⟩ v5)):=AA (by
  intro v5 w5 hown5 hgrow5;have hng:¬p.c.ownBlock=some g:=fun e=>by have:=(AM HRW.out g e).1;have:=HGN.out;omega
  have hb5:Bl w5 g lv i2 p q2:=Ep HB2.out (AG.grown hgrow5) hng;have hks:AG (fun q=>q=g) w5 (w5.setCell ⟨g,4,none⟩ v5):=AG.set;have hbk:Bl (w5.setCell ⟨g,4,none⟩ v5) g lv i2 {p with c:=v5} q2:=Am hb5;refine⟨Ak (MD (Cc HK2.out) HRW.out hgrow5) (Cc hks),?_⟩;have h2:=HP2.out;cases r with
  |bad e2 q=>
   obtain⟨rfl,hne,i3,hb3⟩:=h2;refine⟨rfl,hne,i2,{p with c:=v5},?_⟩;have hq:q2=q:=by
    have h3:=HB2.out;unfold Bl at h3 hb3;rw[h3]at hb3;simp at hb3;exact hb3.2
   rw[←hq];exact hbk
  |ok a j=>
   obtain⟨rfl,rfl,hs⟩:=h2;have hi2:i2=j:=by
    obtain⟨q3,hq3⟩:=hs.blk;have h3:=HB2.out;unfold Bl at h3 hq3;rw[h3]at hq3;simp at hq3;exact hq3.1
   subst hi2;refine⟨rfl,v5,(hs.far (AG.grown hgrow5) hng (fun q hq e=>by
    obtain⟨_,cs1,h5⟩:=AM HRW.out q e;obtain⟨_,cs2,h6⟩:=AM hs.toks q hq;rw[h5]at h6;simp at h6) (fun q hq e=>by have:=(AM HRW.out q e).1;have:=HGN.out;have:=hs.gB;omega)).put hks hbk hs.il,?_⟩
   unfold CX;rw[List.length_append,List.flatMap_append];exact AW hown5 hks (fun q hq e=>by have:=(AM hown5 q hq).1;have:=HGN.out;omega))
 rcases hol.2 with⟨rfl,hl0⟩|⟨gr,cap,cur,rfl,hgr,hhr, -, -, -, -⟩
 ·have hln:l=[]:=List.length_eq_zero_iff.1 hl0;subst hln;obtain⟨Ap,np,cp,hvp⟩:∃A n c,p.c=.slice A n c:=by
   obtain⟨A,c,hv,_⟩:=AX HRW.out;exact⟨A,_,c,hv⟩
  have HVP:=AA hvp;rw[hvp]at k4;clear hb2 hk2 hol hp2 fz hvp hl0;go_wp2_with (at_builtin;refine wpList_append_own_none rfl (.tmp 15) (.tmp 16) 23 rfl N 48 i0 3 Tryz.underlying23 HZ.out.1 (.slice Ap np cp) cs0.length (cs0.flatMap Bd) rfl (by rw[←HVP.out];exact HRW.out) rfl ?_)
  go_ret;have h9:=FIN.out p.c w2 (by simpa using HRW.out) ⟨rfl,rfl,rfl,Nat.le_refl _,fun _ _ _=>rfl⟩;rw[HVP.out]at h9;exact h9
 ·have HAR:Hid (∀j u,(l.flatMap Bd)[j]?=some u→w2.cell? ((⟨gr,0,none⟩:Addr).add j)=some u):=AA (World.ownsRow.cells hol rfl);have HLE:=AA (U5 hol);have HL1:=AA hl1;clear hb2 hk2 hol hp2 fz hgr hhr hl1;go_wp2_with (at_builtin;refine wpList_append_own _ rfl (.tmp 15) (.tmp 16) 23 rfl N 48 i0 (.agg #[.string ⟨#[]⟩,.int .i64 0,.int .i64 0]) 3 32 Tryz.underlying23 HZ.out.1 HZ.out.2.1 HZ.out.2.2.1 HZ.out.2.2.2 rfl (by decide) _ cs0.length (cs0.flatMap Bd) rfl ?dO ⟨gr,0,none⟩ l.length cap (l.flatMap Bd) (by rfl) ?d0 ?d1 ?d2 ?d3 ?d4 ?d5 ?_)
  case dO=>exact HRW.out
  case d0=>exact HLE.out
  case d1=>exact HAR.out
  case d2=>
   intro u hu;obtain⟨c,_,hc⟩:=List.mem_flatMap.1 hu;exact Oo c u hc
  case d3=>have:=HKL.out;have:=HL1.out;unfold maxLen;omega
  case d4=>have:=HKL.out;have:=HL1.out;omega
  case d5=>have:=HNW.out;have:=HK2.out.size;omega
  intro v5 w5 hown5 hgrow5 _;have hng:¬p.c.ownBlock=some g:=fun e=>by have:=(AM HRW.out g e).1;have:=HGN.out;omega
  have hb5:Bl w5 g lv i2 p q2:=Ep HB2.out (AG.grown hgrow5) hng;obtain⟨A5,n5,c5,rfl⟩:∃A n c,v5=.slice A n c:=by
   obtain⟨A,c,hv,_⟩:=AX hown5;exact⟨A,_,c,hv⟩
  have HRES:=AA (FIN.out _ w5 hown5 hgrow5);obtain⟨hgl5, -, -,m2,m3,m4,m5,m6,m7, -,fz5⟩:=hb5.cells;have g2:=fz5 4;clear hng hb5 hown5 hgrow5 fz5 k2 k3 k4 k5 k6 k7 f2 hgl;go_wp2_with fail
  go_ret;exact HRES.out
end
end Go.Proofs.YthfkpalfopdmhaaGreatDoor
